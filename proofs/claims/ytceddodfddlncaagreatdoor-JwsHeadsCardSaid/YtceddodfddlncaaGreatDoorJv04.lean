
import Derived.WalkLawsBesides
import Derived.WalkSpells
import Derived.Handy
import Derived.RegionTactic
import Derived.StillTailTactics
import Derived.LoopTactic
import Derived.Deep.LoopGhost
import Derived.Test.YtceddodfddlncaaGreatDoorJv01
set_option maxRecDepth 100000
set_option maxHeartbeats 16000000
set_option linter.all false
namespace Go.Proofs.YtceddodfddlncaaGreatDoor
open Go Go.RowKit Tryz
def dV:=@Nat.le_trans
def dW:=@bodyPost_ret
def eh:=@List.mem_singleton
def eG:=@Calls.quiet_of_same
def eQ:=@List.length_replicate
def eV:=@Below.size
def fa:=@underlying179
def fu:=@underlying219
def fK:=@Nat.min_eq_left
def fM:=@List.append_nil
def fP:=@List.getElem?_append_left
def gt:=@List.set_cons_zero
def gG:=@underlying82
def hZ:=@Nat.sub_self
def ir:=@List.set_append_right
def iz:=@IntKind.wrap_u8
def iB:=@Nat.eq_zero_or_pos
def iC:=@underlying124
def ja:=@Below.trans
def jO:=@underlying252
def jP:=@Int.pow_succ
def j7:=@World.drewN_drewN
def j8:=@List.take_add_one
def kF:=@results225
def kH:=@underlying165
def li:=@ntmps225
def lr:=@List.mem_of_getElem?
def lJ:=@func225
def lS:=@underlying122
def mD:=@List.map_nil
abbrev Marks (w:World):Prop:=Blk w 6 278 (c_ .i64 [0,0,192,224,240])
theorem Marks.below {w w':World} (h:Marks w) (q:Below w.heap.size w w'):Marks w':=Blk.below h q h.lt
theorem Fz {w:World} (h:Marks w) (k:Nat) (q:k<5):w.cell? ⟨6,k,none⟩=some (.int .i64 (sZ k)):=by
 rw[Blk.cell h]
 match k,q with
 |0,_=>rfl
 |1,_=>rfl
 |2,_=>rfl
 |3,_=>rfl
 |4,_=>rfl
theorem wW (n:Int): ∃k:Nat,k=(i_ n).length∧k≤4∧(n<0→k=0)∧(1114112≤n→k=0)∧(55296≤n→n<57344→k=0)∧(0≤n→n<128→k=1)∧(128≤n→n<2048→k=2)∧(2048≤n→n<55296→k=3)∧(57344≤n→n<65536→k=3)∧(65536≤n→n<1114112→k=4):=by
 refine⟨_,rfl,BF n,?_⟩
 rcases FB n with⟨h,D⟩|⟨h1,q,h⟩|⟨h1,q,h⟩|⟨h1,q,B,h⟩|⟨h1,q,h⟩<;>rw[h]<;>simp only[eu,fO,eL,Nat.reduceAdd]<;>refine⟨?_,?_,?_,?_,?_,?_,?_,?_⟩<;>intros<;>first|trivial|omega
theorem Mv (n:Int) (w:World):
  Calls prog 213 #[.int .i64 n] w fun e w'=>e= .returned (.int .i64 (((i_ n).length:Nat):Int))∧w=w':=by
 obtain⟨k,q,B⟩:=wW n
 rw[←q]
 have D:=dM B
 clear q B
 go_enter func213,ntmps213
 go_wp2
 all_goals go_ret
 all_goals exact⟨tg (by have:=D.out;omega),rfl⟩
theorem Gs (n:Int) (h:0≤n∧n<64):bits .or .i64 128 n=128+n:=G8 1 n 7 h.1 (by omega) (by decide) (by omega)
theorem JH (n:Int) (w:World) (h0:0≤n) (h1:n≤9223372036854775807):
  Calls prog 228 #[.int .i64 n] w fun e w'=>e= .returned (.int .u8 (128+n%64))∧w=w':=by
 have q:=Kb n 6 (by decide) h0 (by omega)
 replace q:bits .and .i64 n 63=n%64:=q
 have B:=Gs (n%64) (by omega)
 go_enter func228,ntmps228
 go_wp2
 go_ret
 exact⟨tg (by omega),rfl⟩
theorem wA (c:Int) (w:World) (q:Marks w) (h0:0≤c) (h1:c≤255):
  Calls prog 227 #[.int .u8 c] w fun e w'=>e= .returned (.int .i64 (((oy c-1:Nat):Int)))∧w=w':=by
 have G:w.cell? ⟨6,4,none⟩=some (.int .i64 240):=Fz q 4 (by decide)
 have I:w.cell? ⟨6,3,none⟩=some (.int .i64 224):=Fz q 3 (by decide)
 have L:w.cell? ⟨6,2,none⟩=some (.int .i64 192):=Fz q 2 (by decide)
 have B:(240≤c→oy c=4)∧(224≤c→c<240→oy c=3)∧(192≤c→c<224→oy c=2)∧(c<192→oy c=1):=by
  unfold oy
  refine⟨fun h=>dP h,fun h E=> ?_,fun h E=> ?_,fun h=> ?_⟩
  ·rw[dN (by omega),dP h]
  ·rw[dN (by omega),dN (by omega),dP h]
  ·rw[dN (by omega),dN (by omega),dN (by omega)]
 obtain⟨k,D⟩:=yaa (oy c)
 rw[←D]at B⊢
 have F:=dM B
 clear D B q
 go_enter func227,ntmps227
 go_wp2
 all_goals go_ret
 all_goals exact⟨tg (by have:=F.out;omega),rfl⟩
def tP (n:Int):List Int:=i_ n++List.replicate (4-(i_ n).length) 0
theorem Ep {n:Int} (h:0≤n) (h1:n<128):tP n=[n,0,0,0]:=by unfold tP;rw[G_ h h1];rfl
theorem Eo {n:Int} (h:128≤n) (h1:n<2048):tP n=[192+n/64,128+n%64,0,0]:=by unfold tP;rw[Jv h h1];rfl
theorem z6 {n:Int} (h:2048≤n) (h1:n<65536) (q:n<55296∨57343<n):tP n=[224+n/4096,128+n/64%64,128+n%64,0]:=by unfold tP;rw[Ik h h1 q];rfl
theorem B7 {n:Int} (h:65536≤n) (h1:n≤1114111):tP n=[240+n/262144,128+n/4096%64,128+n/64%64,128+n%64]:=by unfold tP;rw[JS h h1];rfl
theorem B6 {n:Int} (h:n<0∨1114111<n∨(55296≤n∧n≤57343)):tP n=[0,0,0,0]:=by unfold tP;rw[Ii h];rfl
theorem LL (x:Int) (h:0≤x∧x<256):bits .or .i64 0 x=x:=by
 have:=G8 0 x 8 h.1 (by omega) (by decide) (by omega)
 simpa using this
theorem Gr (x:Int) (h:0≤x∧x<64):bits .or .i64 192 x=192+x:=G8 3 x 6 h.1 (by omega) (by decide) (by omega)
theorem Gq (x:Int) (h:0≤x∧x<32):bits .or .i64 224 x=224+x:=G8 7 x 5 h.1 (by omega) (by decide) (by omega)
theorem Gp (x:Int) (h:0≤x∧x<16):bits .or .i64 240 x=240+x:=G8 15 x 4 h.1 (by omega) (by decide) (by omega)
abbrev Bz (a b c d:Int):Array Value:= #[.int .u8 a,.int .u8 b,.int .u8 c,.int .u8 d]
theorem Hh (n:Int) (k:Nat) (h:(i_ n).length=k) (W:World):Calls prog 213 #[.int .i64 n] W fun e w'=>e= .returned (.int .i64 (k:Int))∧W=w':=by
 have:=Mv n W
 rw[h]at this
 exact this
theorem wP (n:Int) (w:World) (h:i_ n=[]):
  Calls prog 225 #[.int .i64 n] w fun e w'=>e= .returned (.agg (Bz 0 0 0 0))∧Below w.heap.size w w':=by
 have q:=dM (Hh n 0 (by rw[h];rfl))
 clear h
 go_enter lJ,li
 go_wp2_with(go_at_call 213;refine(q.out _).mono ?_;rintro e w' ⟨rfl,rfl⟩)
 exact dW (v:= .agg (Bz 0 0 0 0)) (by simp[results,kF,go_sem]) rfl ⟨rfl,((dU _ _).alloc (dQ _) _).alloc (by simp) _⟩
theorem JA {a b c d E D B q:Int} (h1:a=E) (I:b=D) (G:c=B) (F:d=q):Ending.returned (.agg (Bz a b c d))= .returned (.agg (Bz E D B q)):=by rw[h1,I,G,F]
theorem zY (n:Int) (w:World) (q:Marks w) (h0:0≤n) (h1:n<128):
  Calls prog 225 #[.int .i64 n] w fun e w'=>e= .returned (.agg (Bz n 0 0 0))∧Below w.heap.size w w':=by
 have B:=dM (Hh n 1 (by rw[G_ h0 h1];rfl))
 have D:w.cell? ⟨6,1,none⟩=some (.int .i64 0):=Fz q 1 (by decide)
 have F:=LL n (by omega)
 have E:=q.lt
 clear q
 go_enter lJ,li
 go_wp2_with(first|(go_at_call 213;refine(B.out _).mono ?_;rintro e w' ⟨rfl,rfl⟩)|(go_at_call 228;refine(JH _ _ (by omega) (by omega)).mono ?_;rintro e w' ⟨rfl,rfl⟩))
 refine dW (v:= .agg (Bz n 0 0 0)) (by simp[results,kF,go_sem]) rfl ⟨?_,((dU _ _).alloc (dQ _) _).alloc (by simp) _⟩
 exact JA (by omega) (by omega) (by omega) (by omega)
theorem zX (n:Int) (w:World) (q:Marks w) (h0:128≤n) (h1:n<2048):
  Calls prog 225 #[.int .i64 n] w fun e w'=>e= .returned (.agg (Bz (192+n/64) (128+n%64) 0 0))∧Below w.heap.size w w':=by
 have B:=dM (Hh n 2 (by rw[Jv h0 h1];rfl))
 have D:w.cell? ⟨6,2,none⟩=some (.int .i64 192):=Fz q 2 (by decide)
 have F:=Gr (n/64) (by omega)
 have E:=q.lt
 clear q
 go_enter lJ,li
 go_wp2_with(first|(go_at_call 213;refine(B.out _).mono ?_;rintro e w' ⟨rfl,rfl⟩)|(go_at_call 228;refine(JH _ _ (by omega) (by omega)).mono ?_;rintro e w' ⟨rfl,rfl⟩))
 refine dW (v:= .agg (Bz (192+n/64) (128+n%64) 0 0)) (by simp[results,kF,go_sem]) rfl ⟨?_,((dU _ _).alloc (dQ _) _).alloc (by simp) _⟩
 exact JA (by omega) (by omega) (by omega) (by omega)
theorem tN (n:Int) (w:World) (q:Marks w) (h0:2048≤n) (h1:n<65536) (B:n<55296∨57343<n):
  Calls prog 225 #[.int .i64 n] w fun e w'=>e= .returned (.agg (Bz (224+n/4096) (128+n/64%64) (128+n%64) 0))∧Below w.heap.size w w':=by
 have I:=dM B
 have D:=dM (Hh n 3 (by rw[Ik h0 h1 B];rfl))
 have E:w.cell? ⟨6,3,none⟩=some (.int .i64 224):=Fz q 3 (by decide)
 have G:=Gq (n/64/64) (by omega)
 clear B
 have F:=q.lt
 clear q
 go_enter lJ,li
 go_wp2_with(first|(go_at_call 213;refine(D.out _).mono ?_;rintro e w' ⟨rfl,rfl⟩)|(go_at_call 228;refine(JH _ _ (by omega) (by omega)).mono ?_;rintro e w' ⟨rfl,rfl⟩))
 refine dW (v:= .agg (Bz (224+n/64/64) (128+n/64%64) (128+n%64) 0)) (by simp[results,kF,go_sem]) rfl ⟨?_,((dU _ _).alloc (dQ _) _).alloc (by simp) _⟩
 exact JA (by omega) (by omega) (by omega) (by omega)
theorem wQ (n:Int) (w:World) (q:Marks w) (h0:65536≤n) (h1:n≤1114111):
  Calls prog 225 #[.int .i64 n] w fun e w'=>e= .returned (.agg (Bz (240+n/262144) (128+n/4096%64) (128+n/64%64) (128+n%64)))∧Below w.heap.size w w':=by
 have B:=dM (Hh n 4 (by rw[JS h0 h1];rfl))
 have D:w.cell? ⟨6,4,none⟩=some (.int .i64 240):=Fz q 4 (by decide)
 have F:=Gp (n/64/64/64) (by omega)
 have E:=q.lt
 clear q
 go_enter lJ,li
 go_wp2_with(first|(go_at_call 213;refine(B.out _).mono ?_;rintro e w' ⟨rfl,rfl⟩)|(go_at_call 228;refine(JH _ _ (by omega) (by omega)).mono ?_;rintro e w' ⟨rfl,rfl⟩))
 refine dW (v:= .agg (Bz (240+n/64/64/64) (128+n/64/64%64) (128+n/64%64) (128+n%64))) (by simp[results,kF,go_sem]) rfl ⟨?_,((dU _ _).alloc (dQ _) _).alloc (by simp) _⟩
 exact JA (by omega) (by omega) (by omega) (by omega)
theorem zZ (n:Int) (w:World) (B:Marks w):
  Calls prog 225 #[.int .i64 n] w fun e w'=>e= .returned (.agg (c_ .u8 (tP n)).toArray)∧Below w.heap.size w w':=by
 rcases FB n with⟨h,E⟩|⟨h1,q,h⟩|⟨h1,q,h⟩|⟨h1,q,D,h⟩|⟨h1,q,h⟩
 ·rw[B6 E];exact wP n w h
 ·rw[Ep h1 q];exact zY n w B h1 q
 ·rw[Eo h1 q];exact zX n w B h1 q
 ·rw[z6 h1 q D];exact tN n w B h1 q D
 ·rw[B7 h1 q];exact wQ n w B h1 q
theorem xM (n:Int):(tP n).length=4:=by
 have:=BF n
 unfold tP
 rw[dS,eQ];omega
theorem B5 (n:Int):(tP n).take (i_ n).length=i_ n:=by simp[tP]
theorem sc (n:Int) (w:World) (B:Marks w):
  Calls prog 218 #[.int .i64 n] w fun e w'=>e= .returned (.string (toS (i_ n)))∧Below w.heap.size w w':=by
 have D:=BF n
 have L:=dM (fun W:World=>Mv n W)
 have M:=dM (zZ n w B)
 obtain⟨a,b,c,d,q⟩: ∃a b c d,tP n=[a,b,c,d]:=by
  have:=xM n
  match h:tP n,this with
  |[a,b,c,d],_=>exact⟨a,b,c,d,rfl⟩
 have F: ∀W:World,(convert 46 9 (.slice (some ⟨W.heap.size,0,none⟩) (i_ n).length 4)).run prog (W.alloc (.cells #[.int .u8 a,.int .u8 b,.int .u8 c,.int .u8 d] 122))= .ok (.string (toS (i_ n))) (W.alloc (.cells #[.int .u8 a,.int .u8 b,.int .u8 c,.int .u8 d] 122)):=fun W=>
  zK _ (i_ n) _ 4 _ rfl (by
   have:=(Lies.whole (w:=W.alloc (.cells #[.int .u8 a,.int .u8 b,.int .u8 c,.int .u8 d] 122)) (b:=W.heap.size) (t:=122) (xs:=[a,b,c,d]) (eC W _)).take (i_ n).length
   rw[←q,B5]at this
   exact this)
 have O:=fun(g:Nat)=>LG (P:=prog) 122 5 4 lS (by kernel_rfl) g 0 (i_ n).length (by decide) D .i64
 obtain⟨k,E⟩:=yaa ((i_ n).length)
 rw[←E]at F O L D
 obtain⟨S,I⟩:=yaa (toS (i_ n))
 rw[←I]at F⊢
 rw[q]at M
 clear E I B q
 go_enter func218,ntmps218
 go_wp2_with(first|(go_at_call 213;refine(L.out _).mono ?_;rintro e w' ⟨rfl,rfl⟩)|(go_at_call 225;refine M.out.mono ?_;rintro e Q ⟨rfl,G⟩;have N:=dM G;clear G;simp only[c_,gZ,mD]))
 go_ret
 exact⟨rfl,N.out.alloc N.out.size _⟩
theorem sQ (c0:Int) (l:List Int) (h:0≤c0∧c0≤255): ∀i,0≤nS c0 l i∧nS c0 l i<256*64^i
 |0=>by show 0≤c0∧c0<256*64^0;omega
 |i+1=>by
  have:=sQ c0 l h i
  rw[nS,jP]
  omega
theorem xG (c:Int) (h:0≤c∧c≤255):0≤c-sZ (oy c)∧c-sZ (oy c)≤255:=by
 unfold oy
 split
 ·show 0≤c-240∧_≤_;unfold sZ;simp;omega
 ·split
  ·show 0≤c-224∧_≤_;unfold sZ;simp;omega
  ·split
   ·show 0≤c-192∧_≤_;unfold sZ;simp;omega
   ·show 0≤c-0∧_≤_;unfold sZ;simp;omega
theorem vP (w:World):
  Calls prog 222 #[.string ⟨#[]⟩] w fun e w'=>e= .returned (.tuple #[.int .i64 (-1),.int .i64 0])∧Below w.heap.size w w':=by
 go_enter func222,ntmps222
 go_wp2
 go_ret2
 exact⟨rfl,dU _ _⟩
theorem Kw {s:ByteArray} (h:0<s.size):s.toList.isEmpty=false:=by
 rw[eT]
 cases hd:s.data.toList with
 |nil=>
  have:s.size=s.data.toList.length:=by simp
  rw[hd]at this
  rw[this]at h
  exact absurd h (by decide)
 |cons=>rfl
structure BeginOf (s:ByteArray) (k:Nat):Prop where
 pos:0<s.size
 want:oy ((a_ s).getD 0 0)=k+1
 le:k≤3
theorem zu {s:ByteArray} (h:0<s.size): ∃k,BeginOf s k:=by
 have q:=Ig ((a_ s).getD 0 0)
 exact⟨oy ((a_ s).getD 0 0)-1,h,by omega,by omega⟩
theorem BeginOf.call {s:ByteArray} {k:Nat} (h:BeginOf s k) (h0:0<s.size) (W:World) (B:Marks W):
  Calls prog 227 #[.int .u8 ((s[0]'h0).toNat:Int)] W fun e w'=>e= .returned (.int .i64 (k:Int))∧W=w':=by
 have q:=(pM s) 0
 have:=wA ((a_ s).getD 0 0) W B q.1 q.2
 rw[h.want,jr,o_ s 0 h.pos]at this
 exact this
theorem vO (s:ByteArray) (w:World) (B:Marks w) (h0:0<s.size) (D:s.size<oy ((a_ s).getD 0 0)):
  Calls prog 222 #[.string s] w fun e w'=>e= .returned (.tuple #[.int .i64 (-1),.int .i64 1])∧Below w.heap.size w w':=by
 obtain⟨k,q⟩:=zu h0
 rw[q.want]at D
 have F:=dM (fun W (E:Marks W)=>q.call h0 W E)
 have I:=q.le
 have L:=Kw h0
 have G:=dM B
 clear B q
 go_enter func222,ntmps222
 go_wp2_with(go_at_call 227;refine(F.out _ G.out).mono ?_;rintro e w' ⟨rfl,rfl⟩)
 go_ret2
 exact⟨rfl,dU _ _⟩
theorem FM (j:Nat) (h:j≤3):(64:Int)^j≤262144:=by
 match j,h with
 |0,_=>decide
 |1,_=>decide
 |2,_=>decide
 |3,_=>decide
theorem Fl (w:World) (n:Nat):Below w.heap.size w (w.drewN n):=rG (dU _ _) n
theorem Gm (x y:Int) (h0:0≤x∧x<140737488355328) (h1:0≤y∧y<64):bits .or .i64 (x*64) y=x*64+y:=G8 x y 6 h1.1 (by omega) h0.1 (by omega)
theorem yq (s:ByteArray) (w:World) (R:Marks w) (h0:0<s.size) (ap:s.size≤9223372036854775807) (hs:oy ((a_ s).getD 0 0)≤s.size):
  Calls prog 222 #[.string s] w fun e w'=>e= .returned (.tuple #[.int .i64 (nd (a_ s)).1,.int .i64 ((nd (a_ s)).2:Int)])∧Below w.heap.size w w':=by
 obtain⟨k,q⟩:=zu h0
 have af:=(pM s) 0
 have Q:=xG _ af
 have U:=sQ ((a_ s).getD 0 0-sZ (k+1)) (a_ s) (by rw[←q.want];exact Q)
 rw[q.want]at hs Q
 rw[o_ s 0 h0]at Q
 have HC:Hid (pG (a_ s)=nS ((a_ s).getD 0 0-sZ (k+1)) (a_ s) k):=dM (by unfold pG;rw[q.want,jr])
 have ao:Hid ((a_ s).getD 0 0=((s[0]'h0).toNat:Int)):=dM (o_ s 0 h0)
 have HW:=dM (fun W (V:Marks W)=>q.call h0 W V)
 have ar:=q.le
 have hE:=Kw h0
 have HM:=dM R
 have m1:w.cell? ⟨6,k+1,none⟩=some (.int .i64 (sZ (k+1))):=Fz R (k+1) (by omega)
 have am:=dM q.want
 have aj:0≤sZ (k+1)∧sZ (k+1)≤240:=by unfold sZ;split<;>(try split)<;>(try split)<;>omega
 obtain⟨m,ab⟩:=yaa (sZ (k+1))
 rw[←ab]at m1 Q U HC aj
 have HA:=dM U
 have au:(1:Int)+(k:Int)=((k+1:Nat):Int):=by omega
 clear R q af ab U
 go_enter func222,ntmps222
 go_wp2_with(go_at_call 227;refine(HW.out _ HM.out).mono ?_;rintro e w' ⟨rfl,rfl⟩)
 go_quiet (fail)
 go_wp2
 go_loopw[2,4] (fun x i wr=>Below w.heap.size w wr∧ ∃j:Nat,j≤k∧i= .int .i64 ((j+1:Nat):Int)∧x= .int .i64 (nS ((a_ s).getD 0 0-m) (a_ s) j)) (fun _ i _=>k+1-(intOf i).toNat)
 case atStart=>exact⟨Fl w _,0,by omega,rfl,by rw[ao.out];rfl⟩
 case round=>
  obtain⟨ae,j,hj,rfl,rfl⟩:=hrel
  have F:=dM ae
  clear ae
  by_cases aq:j<k
  ·have ha:=HA.out j
   have ak:=FM j (by omega)
   have ag:nS ((a_ s).getD 0 0-m) (a_ s) j<140737488355328:=by
    omega
   obtain⟨ah,_⟩:=ha
   have HN:Hid (nS ((a_ s).getD 0 0-m) (a_ s) (j+1)=nS ((a_ s).getD 0 0-m) (a_ s) j*64+((s[j+1]'(by omega)).toNat:Int)%64):=dM (by rw[nS,o_ s (j+1) (by omega)])
   obtain⟨x,hx⟩:=yaa (nS ((a_ s).getD 0 0-m) (a_ s) j)
   rw[←hx]at ah ag HN⊢
   have hu:=(s[j+1]'(by omega)).toNat_lt
   have e1:=Kb ((s[j+1]'(by omega)).toNat:Int) 6 (by decide) (by omega) (by omega)
   replace e1:bits .and .i64 ((s[j+1]'(by omega)).toNat:Int) 63=((s[j+1]'(by omega)).toNat:Int)%64:=e1
   have X:=Gm x (((s[j+1]'(by omega)).toNat:Int)%64) ⟨ah,ag⟩ (by omega)
   clear hx ak
   go_wp2
   go_roundw
   case rel=>exact⟨F.out,j+1,by omega,by go_num,by rw[HN.out]⟩
   case measure=>simp[intOf];omega
  ·obtain rfl:j=k:=by omega
   have ai:=dM (HM.out.below F.out)
   have D:=dM (fun(W:World) (V:Marks W)=>sc (pG (a_ s)) W V)
   rw[HC.out]at D
   have O:Hid (nd (a_ s)=if i_ (pG (a_ s))=(a_ s).take (j+1)then(pG (a_ s),j+1)else(-1,1)):=dM (by
    have hl:=j_ s
    unfold nd
    rw[am.out,dN (by omega),dN (by omega)])
   have ad: -1≤pG (a_ s):=by
    rw[HC.out]
    have:=(HA.out j).1
    omega
   by_cases E:i_ (pG (a_ s))=(a_ s).take (j+1)
   ·have N:Hid (nd (a_ s)=(pG (a_ s),j+1)):=dM (by rw[O.out,dP E])
    have B:((toS (i_ (pG (a_ s)))).toList==(s.extract 0 (j+1)).toList)=true:=by
     rw[BG,eb,E]
     exact qy (by rw[th ((pM s).take _),pF,iu])
    rw[HC.out]at B N
    obtain⟨L,M⟩:=yaa (nS ((a_ s).getD 0 0-m) (a_ s) j)
    rw[←M]at B N D⊢
    obtain⟨T,I⟩:=yaa (toS (i_ L))
    rw[←I]at B D
    clear E O M ad I
    go_wp2_with fail
    have b0:(0:Int)≤(j:Int)+1:=by omega
    have Z:(j:Int)+1≤(s.size:Int):=by omega
    have Y:((j:Int)+1).toNat=j+1:=by omega
    go_region_held3(fun W=>Below wr.heap.size wr W) (first|exact(dU _ _).drew|exact ja (by assumption) (G.mono (eV (by assumption)))|go_keep)
     (first|(go_at_call 218;refine(D.out _ (ai.out.below ‹_›)).mono ?_;rintro e w' ⟨rfl,G⟩))
    have aa:=dM (‹Below wr.heap.size wr _›)
    clear b0 Z Y G
    go_wp2_with fail
    go_ret2
    rw[N.out]
    exact⟨rfl,F.out.trans (aa.out.mono F.out.size)⟩
   ·have N:Hid (nd (a_ s)=(-1,1)):=dM (by rw[O.out,dN E])
    have B:((toS (i_ (pG (a_ s)))).toList==(s.extract 0 (j+1)).toList)=false:=by
     rw[BG,fz]
     intro e
     have X:=(Dl (F_ _)).1 e.symm
     rw[pF,iu]at X
     exact E X.symm
    rw[HC.out]at B
    obtain⟨L,M⟩:=yaa (nS ((a_ s).getD 0 0-m) (a_ s) j)
    rw[←M]at B D⊢
    obtain⟨T,I⟩:=yaa (toS (i_ L))
    rw[←I]at B D
    clear E O M ad I
    go_wp2_with fail
    have b0:(0:Int)≤(j:Int)+1:=by omega
    have Z:(j:Int)+1≤(s.size:Int):=by omega
    have Y:((j:Int)+1).toNat=j+1:=by omega
    go_region_held3(fun W=>Below wr.heap.size wr W) (first|exact(dU _ _).drew|exact ja (by assumption) (G.mono (eV (by assumption)))|go_keep)
     (first|(go_at_call 218;refine(D.out _ (ai.out.below ‹_›)).mono ?_;rintro e w' ⟨rfl,G⟩))
    have aa:=dM (‹Below wr.heap.size wr _›)
    clear b0 Z Y G
    go_wp2_with fail
    go_ret2
    rw[N.out]
    exact⟨rfl,F.out.trans (aa.out.mono F.out.size)⟩
theorem Bn (s:ByteArray) (w:World) (q:Marks w) (B:s.size≤9223372036854775807):
  Calls prog 222 #[.string s] w fun e w'=>e= .returned (.tuple #[.int .i64 (nd (a_ s)).1,.int .i64 ((nd (a_ s)).2:Int)])∧Below w.heap.size w w':=by
 have D:=j_ s
 rcases iB s.size with h0|h0
 ·have e:s=⟨#[]⟩:=qy (by rw[ea (D.trans h0)];rfl)
  subst e
  exact vP w
 ·rcases eX s.size (oy ((a_ s).getD 0 0))with h1|h1
  ·have:nd (a_ s)=(-1,1):=by
    unfold nd
    rw[dN (by omega),dP (by omega)]
   rw[this]
   exact vO s w q h0 h1
  ·exact yq s w q h0 B h1
def RingAt (w:World) (A:Option Addr) (ks:List mV):Prop:=ks≠[]→ ∃b o,A=some ⟨b,o,none⟩∧b<w.heap.size∧ ∀i k,ks[i]? =some k→w.cell? ⟨b,o+i*2,none⟩=some (.string k.1)∧w.cell? ⟨b,o+i*2+1,none⟩=some (.string k.2)
def KeyOk (ks:List mV):Prop:= ∀k∈ks,k.1.size≤9223372036854775807∧k.2.size≤9223372036854775807
theorem RingAt.below {w w':World} {A:Option Addr} {ks:List mV} (h:RingAt w A ks) (B:Below w.heap.size w w'):RingAt w' A ks:=fun E=>by
 obtain⟨b,o,e,q,D⟩:=h E
 exact⟨b,o,e,dX q B.size,fun i k hi=>⟨(B.cell (p:=⟨b,o+i*2,none⟩) q).trans (D i k hi).1,(B.cell (p:=⟨b,o+i*2+1,none⟩) q).trans (D i k hi).2⟩⟩
theorem RingAt.at {w:World} {A:Option Addr} {ks:List mV} (h:RingAt w A ks) {i:Nat} (hi:i<ks.length): ∃b o,A=some ⟨b,o,none⟩∧b<w.heap.size∧w.cell? ⟨b,o+i*2,none⟩=some (.string ks[i].1)∧w.cell? ⟨b,o+i*2+1,none⟩=some (.string ks[i].2):=by
 obtain⟨b,o,e,q,B⟩:=h (by intro h0;rw[h0]at hi;exact absurd hi (by simp))
 exact⟨b,o,e,q,B i _ (dZ hi)⟩
theorem RingAt.take {w:World} {A:Option Addr} {ks:List mV} (h:RingAt w A ks) (n:Nat):RingAt w A (ks.take n):=fun q=>by
 obtain⟨b,o,e,B,D⟩:=h (fun e=>q (by rw[e,List.take_nil]))
 refine⟨b,o,e,B,fun i k hi=>D i k ?_⟩
 rw[gI]at hi
 split at hi
 ·exact hi
 ·cases hi
theorem RingAt.nil (w:World) (A:Option Addr):RingAt w A []:=fun h=>absurd rfl h
theorem KeyOk.get {ks:List mV} (h:KeyOk ks) {i:Nat} (hi:i<ks.length):ks[i].1.size≤9223372036854775807∧ks[i].2.size≤9223372036854775807:=h _ (fe hi)
theorem zW {a:ByteArray} (D:a≠⟨#[]⟩):(a.toList==[])=false∧ ¬a.toList=[]∧1≤a.size:=by
 have q:0<a.size:=Nat.pos_of_ne_zero fun h0=>D (by
  cases a with|mk d=>cases d with|mk l=>cases l with|nil=>rfl|cons x r=>simp[ByteArray.size]at h0)
 have B: ¬a.toList=[]:=fun h=>by
  have:=Kw q
  rw[h]at this
  cases this
 exact⟨by rw[dY];exact B,B,q⟩
theorem Jc: ∀k:Fin 31,bits BinOp.and IntKind.u64 (IntKind.u64.wrap (-(((k.val+1:Nat)):Int))) 31=32-(((k.val+1:Nat)):Int):=by decide+kernel
theorem Ey (x:Int) (k:Nat) (w:World) (B:0≤x) (q:x<4294967296) (F:1≤k) (E:k≤31):
  Calls prog 223 #[.int .u32 x,.int .i64 (-(k:Int))] w fun e w'=>e= .returned (.int .u32 (ol x k))∧w=w':=by
 have D:bits BinOp.and IntKind.u64 (IntKind.u64.wrap (-(k:Int))) 31=32-(k:Int):=by
  have:=Jc ⟨k-1,by omega⟩
  have e:k-1+1=k:=by omega
  simp only[e]at this
  exact this
 go_enter func223,ntmps223
 go_wp2
 go_ret
 refine⟨?_,rfl⟩
 have e:32-(32-k)=k:=by omega
 rw[e]
 rfl
theorem Iu (x:Int) (k:Nat) (w:World) (E:0≤x) (D:x<4294967296) (B:1≤k) (q:k≤31):
  Calls prog 215 #[.int .u32 x,.int .i64 (k:Int)] w fun e w'=>e= .returned (.int .u32 (ol x k))∧w=w':=by
 go_enter func215,ntmps215
 go_wp2_with(go_at_call 223;refine(Ey _ _ _ (by omega) (by omega) B q).mono ?_;rintro e w' ⟨rfl,rfl⟩)
 go_ret
 exact⟨rfl,rfl⟩
theorem qF (x:Int) (i j k:Nat) (w:World) (B:0≤x) (q:x<4294967296) (hi:1≤i) (L:i≤31) (I:1≤j) (G:j≤31) (F:1≤k) (E:k≤31):
  Calls prog 200 #[.int .u32 x,.int .i64 (i:Int),.int .i64 (j:Int),.int .i64 (k:Int)] w fun e w'=>e= .returned (.int .u32 (Fu x i j k))∧w=w':=by
 have c:=fun(n:Nat) (h1:1≤n) (D:n≤31) (w:World)=>Iu x n w B q h1 D
 go_enter func200,ntmps200
 go_wp2_with(go_at_call 215;refine(c _ (by omega) (by omega) _).mono ?_;rintro e w' ⟨rfl,rfl⟩)
 go_ret
 exact⟨rfl,rfl⟩
theorem LJ:(prog.info? 252).map (·.zero)=some (some (.agg (c_ .u32 (List.replicate 64 0)).toArray)):=by kernel_rfl
theorem IG:(prog.info? 252).map (·.size)=some 64:=by kernel_rfl
theorem vY:(prog.info? 179).map (·.size)=some 64:=by kernel_rfl
theorem Hs:(prog.info? 124).map (·.size)=some 1:=by kernel_rfl
theorem s5:(prog.info? 5).map (·.size)=some 1:=by kernel_rfl
theorem wM (b:List Int) (w:World) (hb:b.length=64) (ao: ∀i,0≤b.getD i 0∧b.getD i 0≤255):
  Calls prog 199 #[.agg (c_ .u8 b).toArray] w fun e w'=>e= .returned (.agg (c_ .u32 (oR b 48)).toArray)∧Below w.heap.size w w':=by
 have HB:=dM hb
 have aJ:=dM ao
 clear hb ao
 go_enter func199,ntmps199
 go_wp2_with(first
  |(refine Ki rfl (some 1) rfl _ (.tmp 0) rfl (c_ .u8 b) rfl ?_;intro g1 w1 aL I B;have aa:=(dU _ w).grown B (dQ _) (by simp);clear B)
  |(refine nG rfl (some 2) rfl _ rfl _ LJ ?_;intro g2 w2 aB N B;have Z:=aa.grown B aa.size (by simp);replace I:=I.grownN B;clear B)
  |(refine nG rfl (some 3) rfl _ rfl _ LJ ?_;intro g3 O am aq B;have aO:g2<g3:=dX N.lt am;have aN:w.heap.size≤g2:=dV aa.size aB;have aM:w.heap.size≤g3:=dV Z.size am;have ad:=Z.grown B Z.size (by simp);replace I:=I.grownN B;replace N:=N.grownN B;clear B)
  |(refine pO rfl (some 11) rfl _ (.tmp 1) rfl _ 0 rfl _ _ I (c_ .u8 b) (by simp) _ fa rfl (by simp[vY,HB.out]) ?_))
 go_loopw[12] (fun i wr=> ∃k:Nat,k≤64∧i= .int .i64 k∧Blk wr g3 252 (c_ .u32 (oa b k))∧O.grownBy wr (some g3)) (fun i _=>64-(intOf i).toNat)
 case atStart=>exact⟨0,by omega,rfl,aq,ov _ _⟩
 case round=>
  obtain⟨k,E,rfl,D,B⟩:=hrel
  by_cases W:k<64
  ·obtain⟨aD,aC⟩:=aJ.out k
   obtain⟨aG,aF⟩:=sP b k (k/4)
   have M:k/4<64:=by omega
   have gx:=pf .u8 b k (by rw[HB.out];exact W)
   have gy:=pf .u32 (oa b k) (k/4) (by rw[nU];exact M)
   obtain⟨x,hx⟩:=yaa (b.getD k 0)
   obtain⟨y,hy⟩:=yaa ((oa b k).getD (k/4) 0)
   rw[←hx]at aD aC gx
   rw[←hy]at aG aF gy
   have F:Hid ((c_ .u32 (oa b k)).set (k/4) (.int .u32 (bits .or .u32 (y*256%4294967296) x))=c_ .u32 (oa b (k+1))):=by
    rw[BR,oa,hx,hy];exact rfl
   have GX:=dM gx
   have GY:=dM gy
   clear hx hy gx gy
   go_wp2_with(first
    |(refine Kj rfl (some 15) rfl _ (.tmp 11) (.tmp 12) rfl (c_ .u8 b) rfl .i64 k rfl 64 5 fa W .u8 fc s5 (.int .u8 x) GX.out ?_)
    |(refine FE rfl (some 21) rfl _ (.tmp 20) rfl g3 (k/4) rfl _ _ D (.int .u32 y) GY.out .u32 iC ?_)
    |(refine tm rfl none rfl _ (.tmp 26) (.tmp 25) rfl g3 (k/4) (.int .u32 (bits .or .u32 (y*256%4294967296) x)) rfl rfl rfl _ _ D (by rw[b_,nU];exact M) Hs ?_;intro w4 ap aA;replace B:=B.trans aA))
   go_roundw
   case rel=>rw[F.out]at ap;exact⟨k+1,by omega,by go_num,ap,B⟩
   case measure=>simp[intOf];omega
  ·obtain⟨k0,rfl⟩:=yaa k
   have ay:=dM (show k0=64 by omega)
   replace D:Blk wr g3 252 (c_ .u32 (oa b 64)):=by rw[←ay.out];exact D
   have ab:=ad.grown B ad.size (by intro k E;injection E with E;omega)
   have ar:=N.grown B (by intro h;injection h with h;omega)
   go_wp2_with fail
   clear I N aq B aa Z ad
   obtain⟨O,rfl⟩: ∃wo:World,wo=wr:=⟨_,rfl⟩
   go_loopw[6] (fun i wr=> ∃k:Nat,16≤k∧k≤64∧i= .int .i64 k∧Blk wr g3 252 (c_ .u32 (oR b (k-16)))∧O.grownBy wr (some g3)) (fun i _=>64-(intOf i).toNat)
   case atStart=>exact⟨16,by omega,by omega,rfl,D,ov _ _⟩
   case round=>
    clear D
    obtain⟨k,aK,E,rfl,D,B⟩:=hrel
    by_cases W:k<64
    ·have hL:(oR b (k-16)).length=64:=ng _ _
     have gp:=(D.cell (k-2)).trans (pf .u32 (oR b (k-16)) (k-2) (by omega))
     have gq:=(D.cell (k-15)).trans (pf .u32 (oR b (k-16)) (k-15) (by omega))
     have gr:=(D.cell (k-7)).trans (pf .u32 (oR b (k-16)) (k-7) (by omega))
     have gs:=(D.cell (k-16)).trans (pf .u32 (oR b (k-16)) (k-16) (by omega))
     obtain⟨V,U⟩:=Hb b (k-16) (k-2)
     obtain⟨R,Q⟩:=Hb b (k-16) (k-15)
     obtain⟨ah,ag⟩:=Hb b (k-16) (k-7)
     obtain⟨af,ae⟩:=Hb b (k-16) (k-16)
     have ai:yI (oR b (k-16)) k=(tQ ((oR b (k-16)).getD (k-2) 0)+(oR b (k-16)).getD (k-7) 0+tR ((oR b (k-16)).getD (k-15) 0)+(oR b (k-16)).getD (k-16) 0)%4294967296:=rfl
     have F:Hid ((c_ .u32 (oR b (k-16))).set k (.int .u32 (yI (oR b (k-16)) k))=c_ .u32 (oR b (k+1-16))):=by
      rw[BR,show k+1-16=(k-16)+1 by omega,oR,show 16+(k-16)=k by omega];exact rfl
     rw[ai]at F
     obtain⟨p,hp⟩: ∃x,x=(oR b (k-16)).getD (k-2) 0:=⟨_,rfl⟩
     obtain⟨q,M⟩: ∃x,x=(oR b (k-16)).getD (k-15) 0:=⟨_,rfl⟩
     obtain⟨r,hr⟩: ∃x,x=(oR b (k-16)).getD (k-7) 0:=⟨_,rfl⟩
     obtain⟨s,hs⟩: ∃x,x=(oR b (k-16)).getD (k-16) 0:=⟨_,rfl⟩
     rw[←hp]at V U gp F
     rw[←M]at R Q gq F
     rw[←hr]at ah ag gr F
     rw[←hs]at af ae gs F
     clear hp M hr hs ai hL
     have ax: ∀w,Calls prog 215 #[.int .u32 p,.int .i64 17] w (fun e w'=>e= .returned (.int .u32 (ol p 17))∧w=w'):=fun w=>Iu p 17 w V U (by omega) (by omega)
     have aw: ∀w,Calls prog 215 #[.int .u32 p,.int .i64 19] w (fun e w'=>e= .returned (.int .u32 (ol p 19))∧w=w'):=fun w=>Iu p 19 w V U (by omega) (by omega)
     have au: ∀w,Calls prog 215 #[.int .u32 q,.int .i64 7] w (fun e w'=>e= .returned (.int .u32 (ol q 7))∧w=w'):=fun w=>Iu q 7 w R Q (by omega) (by omega)
     have av: ∀w,Calls prog 215 #[.int .u32 q,.int .i64 18] w (fun e w'=>e= .returned (.int .u32 (ol q 18))∧w=w'):=fun w=>Iu q 18 w R Q (by omega) (by omega)
     go_wp2_with fail
     go_quiet (fail)
     go_wp2_with(go_at_call 215;first|((with_reducible refine(ax _).mono ?_);rintro e w' ⟨rfl,rfl⟩)|((with_reducible refine(aw _).mono ?_);rintro e w' ⟨rfl,rfl⟩)|((with_reducible refine(au _).mono ?_);rintro e w' ⟨rfl,rfl⟩)|((with_reducible refine(av _).mono ?_);rintro e w' ⟨rfl,rfl⟩))
     generalize L:wr.drewN nq=wq
     have X:Blk wq g3 252 (c_ .u32 (oR b (k-16))):=by rw[←L];exact D
     have aj:O.grownBy wq (some g3):=by rw[←L];exact Nb B _
     have aI:wq.cell? ⟨g3,k-7,none⟩=some (.int .u32 r):=by rw[←L];exact gr
     have aH:wq.cell? ⟨g3,k-16,none⟩=some (.int .u32 s):=by rw[←L];exact gs
     clear L gp gq gr gs D B ax aw au av
     have gk:=(X.cell k).trans (pf .u32 (oR b (k-16)) k (by rw[ng];exact W))
     obtain⟨z,hz⟩: ∃x,x=(oR b (k-16)).getD k 0:=⟨_,rfl⟩
     rw[←hz]at gk
     have gf:=X.frozen k
     clear hz
     go_region
     have G:=(X.setCell k (.int .u32 ((tQ p+r+tR q+s)%4294967296))).drew
     have ak:=nx (aj.trans (ou wq g3 k (.int .u32 ((tQ p+r+tR q+s)%4294967296))))
     rw[F.out]at G
     have HR:=dM (And.intro G ak)
     clear G ak X aj aI aH gk gf F V U R Q ah ag af ae
     go_wp2_with fail
     go_roundw
     case rel=>exact⟨k+1,by omega,by omega,by go_num,HR.out.1,HR.out.2⟩
     case measure=>simp[intOf];omega
    ·obtain rfl:k=64:=by omega
     have Y:=ab.grown B ab.size (by intro k E;injection E with E;omega)
     have aE:=ar.grown B (by intro h;injection h with h;omega)
     clear B ab ar
     go_wp2_with(first
      |(refine pO rfl (some 71) rfl _ (.tmp 3) rfl _ 0 rfl _ _ D (c_ .u32 (oR b 48)) (by simp) _ jO rfl (by rw[IG,b_,ng]) ?_)
      |(refine nn rfl none rfl _ (.tmp 2) (.tmp 71) rfl g2 0 (c_ .u32 (oR b 48)) rfl rfl _ _ aE (by simp) (by rw[IG,b_,ng]) (oW _ _) ?_;intro w9 G az;replace Y:=Y.grown az Y.size (by intro k E;injection E with E;omega)))
     rw[nr _ _ (by simp)]at G
     exact dW (v:= .agg (c_ .u32 (oR b 48)).toArray) (wv results199 _ _ g2 _ _ _ rfl G jO rfl (by rw[IG,b_,ng])) rfl ⟨rfl,Y⟩
theorem Iz:(prog.info? 219).map (·.zero)=some (some (.agg (c_ .u32 (List.replicate 8 0)).toArray)):=by kernel_rfl
theorem qJ:(prog.info? 219).map (·.size)=some 8:=by kernel_rfl
def vU (x:Int):Prop:=0≤x∧x<4294967296
def G2 (W s:List Int) (w8:World) (va vb vc vd ve vf vg vh i:Value) (wr:World):Prop:=
 ∃(k n:Nat) (a b c d e f g h:Int),k≤64∧pg W s k=[a,b,c,d,e,f,g,h]∧(vU a∧vU b∧vU c∧vU d∧vU e∧vU f∧vU g∧vU h)∧
  va= .int .u32 a∧vb= .int .u32 b∧vc= .int .u32 c∧vd= .int .u32 d∧ve= .int .u32 e∧vf= .int .u32 f∧vg= .int .u32 g∧vh= .int .u32 h∧i= .int .i64 k∧wr=w8.drewN n
theorem Ck: ∀i,0≤rootsL.getD i 0∧rootsL.getD i 0<4294967296:=by
 intro i
 by_cases h:i<64
 ·have: ∀j:Fin 64,0≤rootsL.getD j.val 0∧rootsL.getD j.val 0<4294967296:=by decide+kernel
  exact this ⟨i,h⟩
 ·rw[dR,fJ (by rw[Ly];omega)];decide
theorem Jq (s b:List Int) (w:World) (hs:s.length=8) (ai: ∀i,0≤s.getD i 0∧s.getD i 0<4294967296) (hb:b.length=64) (aI: ∀i,0≤b.getD i 0∧b.getD i 0≤255)
  (aj:Blk w 2 252 (c_ .u32 rootsL)):
  Calls prog 179 #[.agg (c_ .u32 s).toArray,.agg (c_ .u8 b).toArray] w fun e w'=>e= .returned (.agg (c_ .u32 (nI s b)).toArray)∧Below w.heap.size w w':=by
 have G:=dM hs
 have O:=dM ai
 have HB:=dM hb
 obtain⟨W,HW,aa,bl,bj⟩: ∃W,Hid (W=oR b 48)∧Hid (W.length=64)∧Hid (∀i,0≤W.getD i 0∧W.getD i 0<4294967296)∧
   ∀w,Calls prog 199 #[.agg (c_ .u8 b).toArray] w fun e w'=>e= .returned (.agg (c_ .u32 W).toArray)∧Below w.heap.size w w':=
  ⟨_,dM rfl,dM (ng b 48),dM (Hb b 48),fun w=>wM b w hb aI⟩
 have aZ:=aj.lt
 have aS:=dM (sO s (pg W s 64) ai)
 clear hs ai hb aI
 go_enter func179,ntmps179
 go_wp2_with(first
  |(refine Ki rfl (some 2) rfl _ (.tmp 0) rfl (c_ .u32 s) rfl ?_;intro N w2 af B D;have q:=(dU _ w).grown D (dQ _) (by simp);clear D)
  |(refine Ki rfl (some 3) rfl _ (.tmp 1) rfl (c_ .u8 b) rfl ?_;intro g3 w3 ae L D;have bz:N<g3:=dX B.lt ae;replace q:=q.grown D q.size (by simp);replace B:=B.grownN D;clear D)
  |(refine nG rfl (some 4) rfl _ rfl _ Iz ?_;intro g4 w4 V F D;have bw:g3<g4:=dX L.lt V;have bx:w.heap.size≤N:=af;have bu:w.heap.size≤g4:=dV q.size V;replace q:=q.grown D q.size (by simp);replace B:=B.grownN D;replace L:=L.grownN D;clear D)
  |(refine pO rfl (some 20) rfl _ (.tmp 3) rfl _ 0 rfl _ _ L (c_ .u8 b) (by simp) _ fa rfl (by rw[vY,b_,HB.out]) ?_)
  |(go_at_call 199;refine(bj _).mono ?_;rintro e w5 ⟨rfl,Z⟩;replace B:=B.below Z B.lt;replace L:=L.below Z L.lt;have bs:=F.lt;replace F:=F.below Z F.lt;replace q:=q.trans (Z.mono q.size);clear Z)
  |(refine nG rfl (some 5) rfl _ rfl _ LJ ?_;intro g5 w6 U aK D;have bv:g4<g5:=dX F.lt U;have bt:w.heap.size≤g5:=dV q.size U;replace q:=q.grown D q.size (by simp);replace B:=B.grownN D;replace F:=F.grownN D;clear D)
  |(refine nn rfl none rfl _ (.tmp 5) (.tmp 21) rfl g5 0 (c_ .u32 W) rfl rfl _ _ aK (by simp[aa.out]) (by rw[IG,b_,aa.out]) (oW _ _) ?_;intro w7 ap ad;rw[nr _ _ (by simp[aa.out])]at ap;replace q:=q.grown ad q.size (by intro k I;injection I with I;omega);replace B:=B.grown ad (by intro h;injection h with h;omega);replace F:=F.grown ad (by intro h;injection h with h;omega);clear ad))
 go_frame
 have Y:=(B.cell 0).trans (pf .u32 s 0 (by rw[G.out];omega))
 have X:=(B.cell 1).trans (pf .u32 s 1 (by rw[G.out];omega))
 have af:=(B.cell 2).trans (pf .u32 s 2 (by rw[G.out];omega))
 have ae:=(B.cell 3).trans (pf .u32 s 3 (by rw[G.out];omega))
 have V:=(B.cell 4).trans (pf .u32 s 4 (by rw[G.out];omega))
 have U:=(B.cell 5).trans (pf .u32 s 5 (by rw[G.out];omega))
 have aB:=(B.cell 6).trans (pf .u32 s 6 (by rw[G.out];omega))
 have aA:=(B.cell 7).trans (pf .u32 s 7 (by rw[G.out];omega))
 obtain⟨s0,e0⟩: ∃x,x=s.getD 0 0:=⟨_,rfl⟩
 obtain⟨s1,e1⟩: ∃x,x=s.getD 1 0:=⟨_,rfl⟩
 obtain⟨s2,e2⟩: ∃x,x=s.getD 2 0:=⟨_,rfl⟩
 obtain⟨s3,e3⟩: ∃x,x=s.getD 3 0:=⟨_,rfl⟩
 obtain⟨s4,e4⟩: ∃x,x=s.getD 4 0:=⟨_,rfl⟩
 obtain⟨s5,e5⟩: ∃x,x=s.getD 5 0:=⟨_,rfl⟩
 obtain⟨s6,e6⟩: ∃x,x=s.getD 6 0:=⟨_,rfl⟩
 obtain⟨s7,e7⟩: ∃x,x=s.getD 7 0:=⟨_,rfl⟩
 rw[←e0]at Y;rw[←e1]at X;rw[←e2]at af;rw[←e3]at ae;rw[←e4]at V;rw[←e5]at U;rw[←e6]at aB;rw[←e7]at aA
 have HE:Hid (s=[s0,s1,s2,s3,s4,s5,s6,s7]):=dM (by
  have hl:=G.out
  subst e0 e1 e2 e3 e4 e5 e6 e7
  match s,hl with
  |[x0,x1,x2,x3,x4,x5,x6,x7],_=>rfl)
 have b0:=O.out 0;have b1:=O.out 1;have b2:=O.out 2;have b3:=O.out 3;have b4:=O.out 4;have b5:=O.out 5;have b6:=O.out 6;have b7:=O.out 7
 rw[←e0]at b0;rw[←e1]at b1;rw[←e2]at b2;rw[←e3]at b3;rw[←e4]at b4;rw[←e5]at b5;rw[←e6]at b6;rw[←e7]at b7
 clear e0 e1 e2 e3 e4 e5 e6 e7
 go_quiet (fail)
 clear Y X af ae V U aB aA
 have aJ:Blk (w7.drewN nq) g5 252 (c_ .u32 W):=ap
 go_wp2_with(refine pO rfl (some 38) rfl _ (.tmp 5) rfl _ 0 rfl _ _ aJ (c_ .u32 W) (by simp) _ jO rfl (by rw[IG,b_,aa.out]) ?_)
 replace q:=rG q nq
 have ay:Blk (w7.drewN nq) 2 252 (c_ .u32 rootsL):=aj.below q aZ
 replace B:=B.drewN nq
 replace F:=F.drewN nq
 clear ap aJ aK L aj
 generalize w7.drewN nq=Q at*
 go_loopw[6,7,8,9,10,11,12,13,39] (fun va vb vc vd ve vf vg vh i wr=>G2 W s Q va vb vc vd ve vf vg vh i wr) (fun _ _ _ _ _ _ _ _ i _=>64-(intOf i).toNat)
 case atStart=>exact⟨0,0,s0,s1,s2,s3,s4,s5,s6,s7,by omega,HE.out,⟨b0,b1,b2,b3,b4,b5,b6,b7⟩,rfl,rfl,rfl,rfl,rfl,rfl,rfl,rfl,rfl,rfl⟩
 case round=>
  obtain⟨k,n,a,E,c,d,e,f,g,h,I,az,⟨⟨ar,aq⟩,⟨aP,aO⟩,⟨aF,aE⟩,⟨bg,bf⟩,⟨ao,am⟩,⟨aD,aC⟩,⟨Y,X⟩,⟨ba,a8⟩⟩,rfl,rfl,rfl,rfl,rfl,rfl,rfl,rfl,rfl,rfl⟩:=hrel
  have ax:=dM az
  clear az
  by_cases ak:k<64
  ·have gW:=pf .u32 W k (by rw[aa.out];exact ak)
   have gK:(Q.drewN n).cell? ⟨2,k,none⟩=_:=(ay.cell k).trans (pf .u32 rootsL k (by rw[Ly];exact ak))
   obtain⟨aY,aX⟩:=bl.out k
   obtain⟨a7,a6⟩:=Ck k
   obtain⟨wt,au⟩: ∃x,x=W.getD k 0:=⟨_,rfl⟩
   obtain⟨kt,av⟩: ∃x,x=rootsL.getD k 0:=⟨_,rfl⟩
   rw[←au]at gW aY aX
   rw[←av]at gK a7 a6
   have bo:=dM au
   have bp:=dM av
   have GW:=dM gW
   clear au av gW
   have ce: ∀w,Calls prog 200 #[.int .u32 e,.int .i64 6,.int .i64 11,.int .i64 25] w (fun v w'=>v= .returned (.int .u32 (Fu e 6 11 25))∧w=w'):=fun w=>qF e 6 11 25 w ao am (by omega) (by omega) (by omega) (by omega) (by omega) (by omega)
   have ca: ∀w,Calls prog 200 #[.int .u32 a,.int .i64 2,.int .i64 13,.int .i64 22] w (fun v w'=>v= .returned (.int .u32 (Fu a 2 13 22))∧w=w'):=fun w=>qF a 2 13 22 w ar aq (by omega) (by omega) (by omega) (by omega) (by omega) (by omega)
   go_wp2_with(first
    |(refine Kj rfl (some 42) rfl _ (.tmp 38) (.tmp 39) rfl (c_ .u32 W) rfl .i64 k rfl 64 124 jO ak .u32 iC Hs (.int .u32 wt) GW.out ?_))
   have aR:=fun w=>(ce w).mono fun _ _ (hh:_∧_)=>(⟨hh.1,hh.2.symm⟩:_∧_)
   obtain⟨wr,ah⟩: ∃x,x=Q.drewN n:=⟨_,rfl⟩
   rw[←ah]at gK⊢
   have bk:=dM ah
   clear ah
   go_quiet ((go_at_call 200;exact eG (aR _)))
   clear gK ce aR
   go_wp2_with(go_at_call 200;refine(ca _).mono ?_;rintro e w' ⟨rfl,rfl⟩)
   refine⟨⟨k+1,n+nq,_,a,E,c,_,e,f,g,by omega,?_,⟨⟨by omega,by omega⟩,⟨ar,aq⟩,⟨aP,aO⟩,⟨aF,aE⟩,⟨by omega,by omega⟩,⟨ao,am⟩,⟨aD,aC⟩,⟨Y,X⟩⟩,rfl,rfl,rfl,rfl,rfl,rfl,rfl,rfl,by go_num,?_⟩,by simp[intOf];omega⟩
   ·show Ht (pg W s k) (rootsL.getD k 0) (W.getD k 0)=_
    rw[ax.out,←bp.out,←bo.out];rfl
   ·rw[bk.out,j7]
  ·have HK:=dM (show k=64 by omega)
   have bh:Blk (Q.drewN n) N 219 (c_ .u32 s):=B
   have aL:Blk (Q.drewN n) g4 219 (c_ .u32 (List.replicate 8 0)):=F
   replace q:=rG q n
   clear B F ay
   generalize Q.drewN n=w9 at*
   have bd:decide ((k:Int)<64)=false:=by simp;omega
   go_wp2_with fail
   have aH: ∀j i,0≤(oV s [a,E,c,d,e,f,g,h] j).getD i 0∧(oV s [a,E,c,d,e,f,g,h] j).getD i 0<4294967296:=by
    have:=aS.out;rw[←HK.out,ax.out]at this;exact this
   have bn:=dM aH
   have aQ: ∀i,0≤[a,E,c,d,e,f,g,h].getD i 0∧[a,E,c,d,e,f,g,h].getD i 0<4294967296:=fun i=>
    match i with
    |0=>⟨ar,aq⟩|1=>⟨aP,aO⟩|2=>⟨aF,aE⟩|3=>⟨bg,bf⟩|4=>⟨ao,am⟩|5=>⟨aD,aC⟩|6=>⟨Y,X⟩|7=>⟨ba,a8⟩
    |n+8=>by simp
   have bm:=dM aQ
   clear aH aQ aS bd
   go_loopw[98] (fun i wr=> ∃j:Nat,j≤8∧i= .int .i64 j∧Blk wr N 219 (c_ .u32 (oV s [a,E,c,d,e,f,g,h] j))∧w9.grownBy wr (some N)) (fun i _=>8-(intOf i).toNat)
   case atStart=>exact⟨0,by omega,rfl,bh,ov _ _⟩
   case round=>
    obtain⟨j,hj,rfl,ag,D⟩:=hrel
    by_cases ab:j<8
    ·have gx:=pf .u32 (oV s [a,E,c,d,e,f,g,h] j) j (by rw[oF,G.out];exact ab)
     have gy:=pf .u32 [a,E,c,d,e,f,g,h] j ab
     obtain⟨aW,aV⟩:=bn.out j j
     obtain⟨aU,aT⟩:=bm.out j
     have aw:Hid ((c_ .u32 (oV s [a,E,c,d,e,f,g,h] j)).set j (.int .u32 (((oV s [a,E,c,d,e,f,g,h] j).getD j 0+[a,E,c,d,e,f,g,h].getD j 0)%4294967296))=c_ .u32 (oV s [a,E,c,d,e,f,g,h] (j+1))):=by
      rw[BR];exact rfl
     obtain⟨x,hx⟩:=yaa ((oV s [a,E,c,d,e,f,g,h] j).getD j 0)
     obtain⟨y,hy⟩: ∃x,x=[a,E,c,d,e,f,g,h].getD j 0:=⟨_,rfl⟩
     rw[←hx]at gx aW aV aw
     rw[←hy]at gy aU aT aw
     have GX:=dM gx
     have GY:=dM gy
     clear hx hy gx gy
     go_wp2_with(first
      |(refine Kj rfl (some 101) rfl _ (.tmp 97) (.tmp 98) rfl (c_ .u32 [a,E,c,d,e,f,g,h]) rfl .i64 j rfl 8 124 fu ab .u32 iC Hs (.int .u32 y) GY.out ?_)
      |(refine FE rfl (some 104) rfl _ (.tmp 103) rfl N j rfl _ _ ag (.int .u32 x) GX.out .u32 iC ?_)
      |(refine tm rfl none rfl _ (.tmp 107) (.tmp 106) rfl N j (.int .u32 ((x+y)%4294967296)) rfl rfl rfl _ _ ag (by rw[b_,oF,G.out];exact ab) Hs ?_;intro br aN bc;replace D:=D.trans bc))
     go_roundw
     case rel=>rw[aw.out]at aN;exact⟨j+1,by omega,by go_num,aN,D⟩
     case measure=>simp[intOf];omega
    ·have HJ:=dM (show j=8 by omega)
     have aG:Blk wr N 219 (c_ .u32 (nI s b)):=by
      have e:nI s b=oV s [a,E,c,d,e,f,g,h] j:=by rw[nI,←HW.out,←HK.out,ax.out,HJ.out]
      rw[e];exact ag
     have bi:=aL.grown D (by intro h;injection h with h;omega)
     replace q:=q.grown D q.size (by intro k I;injection I with I;omega)
     have R:Hid ((nI s b).length=8):=dM (by rw[zN,G.out])
     clear ag aL D
     obtain⟨M,hM⟩:=yaa (nI s b)
     rw[←hM]at aG R
     have HM:=dM hM
     clear hM
     go_wp2_with(first
      |(refine pO rfl (some 109) rfl _ (.tmp 2) rfl _ 0 rfl _ _ aG (c_ .u32 M) (by simp) _ fu rfl (by rw[qJ,b_,R.out]) ?_)
      |(refine nn rfl none rfl _ (.tmp 4) (.tmp 109) rfl g4 0 (c_ .u32 M) rfl rfl _ _ bi (by simp[R.out]) (by rw[qJ,b_,R.out]) (oW _ _) ?_;intro bq aM bb;replace q:=q.grown bb q.size (by intro k I;injection I with I;omega)))
     rw[nr _ _ (by simp[R.out])]at aM
     exact dW (v:= .agg (c_ .u32 M).toArray) (wv results179 _ _ g4 _ _ _ rfl aM fu rfl (by rw[qJ,b_,R.out])) rfl ⟨by rw[HM.out],q⟩
theorem z24:(prog.info? 82).map (·.zero)=some (some (.agg (c_ .u8 (List.replicate 32 0)).toArray)):=by kernel_rfl
theorem rP:(prog.info? 82).map (·.size)=some 32:=by kernel_rfl
theorem FH:(prog.info? 179).map (·.zero)=some (some (.agg (c_ .u8 (List.replicate 64 0)).toArray)):=by kernel_rfl
theorem FX (q blk:List Int) (n:Nat) (B:q.length=8) (D:blk.length=64):(HC q blk n)[72]? =some (.int .u64 (n:Int)):=by
 simp[HC,List.getElem?_append,B,D]
theorem G3 (q blk:List Int) (n:Nat): ∀j v,(c_ .u32 q)[j]? =some v→(HC q blk n)[0+j]? =some v:=by
 intro j v h
 have B:=(eP.1 h).1
 rw[HC,eL,fP B];exact h
theorem yC (B blk:List Int) (n:Nat) (q:B.length=8): ∀j v,(c_ .u8 blk)[j]? =some v→(HC B blk n)[8+j]? =some v:=by
 intro j v h
 have D:=(eP.1 h).1
 rw[HC,ez (by simp[q]),fP (by simp[q];simpa using D)]
 simpa[q]using h
theorem Hg (q blk:List Int) (n:Nat):(HC q blk n).length=q.length+blk.length+1:=by simp[HC];omega
theorem Lx (g:Nat) (q blk:List Int) (n:Nat) (w:World) (B:q.length=8) (D:blk.length=64) (F:n<2305843009213693952) (E:Blk w g 221 (HC q blk n)):
  Calls prog 178 #[.pointer (some ⟨g,0,none⟩)] w fun e w'=>e= .returned (.int .i64 ((n%64:Nat):Int))∧w=w':=by
 have G:=(E.cell 72).trans (FX q blk n B D)
 have I:=dM B
 have L:=dM D
 clear B D
 go_enter func178,ntmps178
 go_wp2
 go_ret
 exact⟨rfl,rfl⟩
theorem qI (g:Nat) (E blk:List Int) (n:Nat) (w:World) (N:E.length=8) (R:blk.length=64) (Z:n<2305843009213693952) (D:Blk w g 221 (HC E blk n))
  (F:Blk w 3 219 (c_ .u32 nX)):
  Calls prog 180 #[.pointer (some ⟨g,0,none⟩)] w fun e w'=>e= .returned (.agg (c_ .u32 (if n<64 then nX else E)).toArray)∧Below w.heap.size w w':=by
 have ab:=D.lt
 have aa:=F.lt
 have U:=FX E blk n N R
 have V:=dM U
 have M:=dM N
 have HB:=dM R
 clear N R U
 by_cases h:n<64
 ·go_enter func180,ntmps180
  go_wp2_with(first
   |(refine nG rfl (some 2) rfl _ rfl _ Iz ?_;intro L W Y Q q;have B:=(dU _ w).grown q (dQ _) (by simp);replace D:=D.grownN q;replace F:=F.grownN q;clear q)
   |(refine FE rfl (some 6) rfl _ (.tmp 5) rfl g 72 rfl _ _ D (.int .u64 (n:Int)) V.out .u64 kH ?_)
   |(refine pO rfl (some 8) rfl _ (.global 3) rfl _ 0 rfl _ _ F (c_ .u32 nX) (by simp) _ fu rfl (by rw[qJ];rfl) ?_)
   |(refine nn rfl none rfl _ (.tmp 2) (.tmp 8) rfl L 0 (c_ .u32 nX) rfl rfl _ _ Q (by decide) (by rw[qJ];rfl) (oW _ _) ?_;intro X I O;replace B:=B.grown O B.size (by intro k G;injection G with G;omega)))
  rw[nr _ _ (by decide)]at I
  exact dW (v:= .agg (c_ .u32 nX).toArray) (wv results180 _ _ L _ _ _ rfl I fu rfl (by rw[qJ];rfl)) rfl ⟨rfl,B⟩
 ·go_enter func180,ntmps180
  go_wp2_with(first
   |(refine nG rfl (some 2) rfl _ rfl _ Iz ?_;intro L W Y Q q;have B:=(dU _ w).grown q (dQ _) (by simp);replace D:=D.grownN q;replace F:=F.grownN q;clear q)
   |(refine FE rfl (some 6) rfl _ (.tmp 5) rfl g 72 rfl _ _ D (.int .u64 (n:Int)) V.out .u64 kH ?_)
   |(refine pO rfl (some 12) rfl _ (.tmp 11) rfl _ 0 rfl _ _ D (c_ .u32 E) (G3 _ _ _) _ fu rfl (by rw[qJ,b_,M.out]) ?_)
   |(refine nn rfl none rfl _ (.tmp 2) (.tmp 12) rfl L 0 (c_ .u32 E) rfl rfl _ _ Q (by simp[M.out]) (by rw[qJ,b_,M.out]) (oW _ _) ?_;intro X I O;replace B:=B.grown O B.size (by intro k G;injection G with G;omega)))
  rw[nr _ _ (by simp[M.out])]at I
  exact dW (v:= .agg (c_ .u32 E).toArray) (wv results180 _ _ L _ _ _ rfl I fu rfl (by rw[qJ,b_,M.out])) rfl ⟨rfl,B⟩
theorem yV (m:Int) (h0:0≤m) (h1:m<18446744073709551616): ∀k,0≤oI m k∧oI m k<18446744073709551616
 |0=>⟨h0,h1⟩
 |k+1=>by have:=yV m h0 h1 k;unfold oI;omega
theorem M6 (g:Nat) (L:List Int) (m:Int) (w:World) (G:L.length=64) (R:0≤m) (Q:m<18446744073709551616) (E:Blk w g 179 (c_ .u8 L)):
  Calls prog 181 #[.slice (some ⟨g,56,none⟩) 8 8,.int .u64 m] w fun e w'=>e= .returned (.tuple #[])∧Blk w' g 179 (c_ .u8 (oC L m 8))∧w.grownBy w' (some g):=by
 have W:=dM G
 have V:=dM (yV m R Q)
 clear G
 go_enter func181,ntmps181
 go_wp2
 go_loopw[1,4] (fun c i wr=> ∃k:Nat,k≤8∧c= .int .u64 (oI m k)∧i= .int .i64 (7-(k:Int))∧Blk wr g 179 (c_ .u8 (oC L m k))∧w.grownBy wr (some g)) (fun _ i _=>(intOf i+1).toNat)
 case atStart=>exact⟨0,by omega,rfl,rfl,E,ov _ _⟩
 case round=>
  clear E
  obtain⟨k,hk,rfl,rfl,B,q⟩:=hrel
  by_cases Z:k<8
  ·obtain⟨O,N⟩:=V.out k
   have I:Hid (oI m (k+1)=oI m k/256):=rfl
   have M:Hid ((c_ .u8 (oC L m k)).set (56+(7-k)) (.int .u8 (oI m k%256))=c_ .u8 (oC L m (k+1))):=by rw[BR];exact rfl
   obtain⟨x,D⟩:=yaa (oI m k)
   rw[←D]at O N I M⊢
   clear D
   go_wp2_with(first
    |(refine tm rfl none rfl _ (.tmp 16) (.tmp 15) rfl g (56+(7-k)) (.int .u8 (x%256)) rfl rfl rfl _ _ B (by rw[b_,oE,W.out];omega) s5 ?_;intro Y F U;replace q:=q.trans U))
   go_roundw
   case rel=>rw[M.out]at F;exact⟨k+1,by omega,by rw[I.out],by(congr 1;omega),F,q⟩
   case measure=>simp[intOf];omega
  ·have X:=dM (show k=8 by omega)
   go_wp2_with fail
   go_end0
   rw[X.out]at B
   exact⟨rfl,B,q⟩
theorem M9 (s:List Int) (w:World) (X:s.length=8) (W: ∀i,0≤s.getD i 0∧s.getD i 0<4294967296):
  Calls prog 182 #[.agg (c_ .u32 s).toArray] w fun e w'=>e= .returned (.agg (c_ .u8 (pQ s 8)).toArray)∧Below w.heap.size w w':=by
 have HS:=dM X
 have ao:=dM W
 clear X W
 go_enter func182,ntmps182
 go_wp2_with(first
  |(refine Ki rfl (some 1) rfl _ (.tmp 0) rfl (c_ .u32 s) rfl ?_;intro g1 w1 aq G q;have B:=(dU _ w).grown q (dQ _) (by simp);clear q)
  |(refine nG rfl (some 2) rfl _ rfl _ z24 ?_;intro Q w2 ak I q;have au:w.heap.size≤Q:=dV B.size ak;replace B:=B.grown q B.size (by simp);replace G:=G.grownN q;clear q)
  |(refine nG rfl (some 3) rfl _ rfl _ z24 ?_;intro g3 w3 Z af q;have av:Q<g3:=dX I.lt Z;have ar:w.heap.size≤g3:=dV B.size Z;replace B:=B.grown q B.size (by simp);replace G:=G.grownN q;replace I:=I.grownN q;clear q)
  |(refine pO rfl (some 6) rfl _ (.tmp 1) rfl _ 0 rfl _ _ G (c_ .u32 s) (by simp) _ fu rfl (by rw[qJ,b_,HS.out]) ?_))
 go_loopw[7] (fun i wr=> ∃k:Nat,k≤8∧i= .int .i64 k∧Blk wr g3 82 (c_ .u8 (pQ s k))∧w3.grownBy wr (some g3)) (fun i _=>8-(intOf i).toNat)
 case atStart=>exact⟨0,by omega,rfl,af,ov _ _⟩
 case round=>
  obtain⟨k,F,rfl,E,q⟩:=hrel
  by_cases Y:k<8
  ·have R:=pf .u32 s k (by rw[HS.out];exact Y)
   obtain⟨ai,ah⟩:=ao.out k
   have N:Hid ((c_ .u8 (pQ s k)).length=32):=dM (by simp)
   have U:Hid (((((c_ .u8 (pQ s k)).set (4*k) (.int .u8 (s.getD k 0/16777216))).set (4*k+1) (.int .u8 (s.getD k 0/65536%256))).set (4*k+2) (.int .u8 (s.getD k 0/256%256))).set (4*k+3) (.int .u8 (s.getD k 0%256))=c_ .u8 (pQ s (k+1))):=by
    rw[BR,BR,BR,BR];exact rfl
   obtain⟨x,V⟩:=yaa (s.getD k 0)
   rw[←V]at R ai ah U
   obtain⟨C,hC⟩:=yaa (c_ .u8 (pQ s k))
   rw[←hC]at E N U
   have GX:=dM R
   clear V R hC
   go_wp2_with(first
    |(refine Kj rfl (some 10) rfl _ (.tmp 6) (.tmp 7) rfl (c_ .u32 s) rfl .i64 k rfl 8 124 fu Y .u32 iC Hs (.int .u32 x) GX.out ?_)
    |(refine tm rfl none rfl _ (.tmp 16) (.tmp 15) rfl g3 (4*k) (.int .u8 (x/16777216)) rfl rfl rfl _ _ E (by rw[N.out];omega) s5 ?_;intro w4 ae D;replace q:=q.trans D;clear E D)
    |(refine tm rfl none rfl _ (.tmp 23) (.tmp 22) rfl g3 (4*k+1) (.int .u8 (x/65536%256)) rfl rfl rfl _ _ ae (by rw[ju,N.out];omega) s5 ?_;intro w5 ad D;replace q:=q.trans D;clear ae D)
    |(refine tm rfl none rfl _ (.tmp 30) (.tmp 29) rfl g3 (4*k+2) (.int .u8 (x/256%256)) rfl rfl rfl _ _ ad (by rw[ju,ju,N.out];omega) s5 ?_;intro w6 ab D;replace q:=q.trans D;clear ad D)
    |(refine tm rfl none rfl _ (.tmp 36) (.tmp 35) rfl g3 (4*k+3) (.int .u8 (x%256)) rfl rfl rfl _ _ ab (by rw[ju,ju,ju,N.out];omega) s5 ?_;intro w7 aa D;replace q:=q.trans D;clear ab D))
   go_roundw
   case rel=>rw[U.out]at aa;exact⟨k+1,by omega,by go_num,aa,q⟩
   case measure=>simp[intOf];omega
  ·have HK:=dM (show k=8 by omega)
   replace E:Blk wr g3 82 (c_ .u8 (pQ s 8)):=by rw[←HK.out];exact E
   have am:=I.grown q (by intro h;injection h with h;omega)
   replace B:=B.grown q B.size (by intro k F;injection F with F;omega)
   obtain⟨M,O⟩:=yaa (pQ s 8)
   have L:Hid (M.length=32):=dM (by rw[O,nR])
   rw[←O]at E
   have HM:=dM O
   clear O G I af q
   go_wp2_with(first
    |(refine pO rfl (some 38) rfl _ (.tmp 3) rfl _ 0 rfl _ _ E (c_ .u8 M) (by simp) _ gG rfl (by rw[rP,b_,L.out]) ?_)
    |(refine nn rfl none rfl _ (.tmp 2) (.tmp 38) rfl Q 0 (c_ .u8 M) rfl rfl _ _ am (by simp[L.out]) (by rw[rP,b_,L.out]) (oW _ _) ?_;intro ap ag aj;replace B:=B.grown aj B.size (by intro k F;injection F with F;omega)))
   rw[nr _ _ (by simp[L.out])]at ag
   exact dW (v:= .agg (c_ .u8 M).toArray) (wv results182 _ _ Q _ _ _ rfl ag gG rfl (by rw[rP,b_,L.out])) rfl ⟨by rw[HM.out],B⟩
theorem Blk.ne_ {w:World} {g D:Nat} {t B:TypeId} {cs G:List Value} (h:Blk w g t cs) (q:Blk w D B G) (F:t≠B):g≠D:=by
 rintro rfl
 unfold Blk at h q
 rw[h]at q
 injection q with q
 injection q with _ E _
 exact F E
def DT (w:World) (g:Nat) (bs:List Int):Prop:= ∃sum blk,HOk sum blk bs∧Blk w g 221 (HC sum blk bs.length)
def Tabs (w:World):Prop:=Blk w 2 252 (c_ .u32 rootsL)∧Blk w 3 219 (c_ .u32 nX)
theorem Tabs.grown {w w':World} (h:Tabs w) {g:Nat} {cs:List Value} (B:Blk w g 221 cs) (q:w.grownBy w' (some g)):Tabs w':=
 ⟨h.1.grown q (by intro e;injection e with e;exact h.1.ne_ B (by decide) e),h.2.grown q (by intro e;injection e with e;exact h.2.ne_ B (by decide) e)⟩
theorem Tabs.below {w w':World} (h:Tabs w) (q:Below w.heap.size w w'):Tabs w':=⟨h.1.below q h.1.lt,h.2.below q h.2.lt⟩
def CU:Value→Nat
 | .slice _ n _=>n
 |_=>0
theorem Nx:(prog.info? 165).map (·.size)=some 1:=by kernel_rfl
theorem By (B blk:List Int) (n r:Nat) (q:List Int) (D:B.length=8) (I:blk.length=64) (G:r+q.length≤64):
  splice (HC B blk n) (8+r) (c_ .u8 q)=HC B (splice blk r q) n:=by
 have F:(HC B blk n).take (8+r)=c_ .u32 B++c_ .u8 (blk.take r):=by
  rw[HC,List.take_append,b_,D,eo (by simp;omega),show 8+r-8=r by omega,iW (by simp;omega)]
  simp[c_]
 have E:(HC B blk n).drop (8+r+q.length)=c_ .u8 (blk.drop (r+q.length))++[.int .u64 (n:Int)]:=by
  rw[HC,List.drop_append,b_,D,fo (by simp;omega),show 8+r+q.length-8=r+q.length by omega,gP (by simp;omega)]
  simp[c_]
 rw[splice,b_,F,E,HC,splice]
 simp[c_]
theorem MB (q blk:List Int) (n m:Nat) (B:q.length=8) (D:blk.length=64):(HC q blk n).set 72 (.int .u64 (m:Int))=HC q blk m:=by
 rw[HC,ir _ _ (by simp[B]),ir _ _ (by simp[B,D])]
 simp[HC,B,D]
theorem FQ (l:List Int) (h:l.length=8): ∃a b c d e f g h:Int,l=[a,b,c,d,e,f,g,h]:=by
 match l,h with
 |[a,b,c,d,e,f,g,h],_=>exact⟨a,b,c,d,e,f,g,h,rfl⟩
def SS (g:Nat) (cs:List Value) (base W:World):Prop:=Blk W g 221 cs∧Tabs W∧base.grownBy W (some g)
theorem SS.drew {g:Nat} {cs:List Value} {base W:World} (h:SS g cs base W):SS g cs base W.drew:=⟨h.1.drew,h.2.1,nx h.2.2⟩
theorem SS.below {g:Nat} {cs:List Value} {base W B:World} (h:SS g cs base W) (q:Below W.heap.size W B):SS g cs base B:=
 ⟨h.1.below q h.1.lt,h.2.1.below q,h.2.2.trans (od q _)⟩
theorem yB (B q blk:List Int) (n:Nat) (E:B.length=8) (D:q.length=8):splice (HC B blk n) 0 (c_ .u32 q)=HC q blk n:=by
 simp[splice,HC,E,D,c_]
theorem zP (g:Nat) (bs xs:List Int) (A:Option Addr) (c:Nat) (w:World) (hx:Bytes xs) (hc:xs.length≤c) (hn:bs.length+xs.length<2305843009213693952)
  (bg:DT w g bs) (ae:Src w g A xs) (aR:Tabs w):
  Calls prog 154 #[.pointer (some ⟨g,0,none⟩),.slice A xs.length c] w fun e w'=>e= .returned (.tuple #[])∧DT w' g (bs++xs)∧w.grownBy w' (some g):=by
 obtain⟨bb,bm,aW,aL⟩:=bg
 have bo:=dM aR
 have ba:=dM aW
 have HX:=dM hx
 clear hx aR aW
 go_enter func154,ntmps154
 go_wp2_with fail
 go_loopw[1] (fun v wr=> ∃(Q D F blk:List Int) (L:Option Addr) (I:Nat),xs=Q++D∧v= .slice L D.length I∧D.length≤I∧HOk F blk (bs++Q)∧Blk wr g 221 (HC F blk (bs++Q).length)∧Src wr g L D∧w.grownBy wr (some g)) (fun v _=>CU v)
 case atStart=>exact⟨[],xs,bb,bm,A,c,rfl,rfl,hc,by simpa using ba.out,by simpa using aL,ae,ov _ _⟩
 case round=>
  have br:=dM aL
  clear aL ba ae
  obtain⟨Q,D,F,blk,L,I,au,rfl,bl,af,hb,ae,ag⟩:=hrel
  have HT:Hid (Tabs wr):=dM (bo.out.grown br.out ag)
  have aY:bs.length+Q.length+D.length<2305843009213693952:=by rw[au,dS]at hn;omega
  have az:=dM au
  have aO:Hid (Bytes D):=dM (Bytes.right (l:=Q) (by rw[←au];exact HX.out))
  clear au
  obtain⟨B,ax⟩:=yaa (bs++Q)
  have bi:B.length+D.length<2305843009213693952:=by rw[ax,dS];exact aY
  rw[←ax]at af hb
  have aj:=dM ax
  clear ax aY
  obtain⟨n,aX⟩:=yaa B.length
  obtain⟨r,hr⟩:=yaa (B.length%64)
  obtain⟨m,hm⟩:=yaa D.length
  have bh:r<64:=by omega
  have bt:r≤n:=by omega
  have bv:n+m<2305843009213693952:=by omega
  rw[←hm]at bl⊢
  by_cases bw:0<m
  ·obtain⟨q,U⟩:=yaa (Nat.min m (64-r))
   have bu:0<q:=by simp only[Nat.min_def]at U;split at U<;>omega
   have aV:q≤m:=by simp only[Nat.min_def]at U;split at U<;>omega
   have aU:r+q≤64:=by simp only[Nat.min_def]at U;split at U<;>omega
   have Y:Hid ((D.take q).length=q):=dM (by rw[ep];omega)
   have aB:=fun(w':World) (h:Blk w' g 221 (HC F blk B.length))=>Lx g F blk B.length w' af.1 af.2.2.1 (by omega) h
   rw[←hr]at aB
   have N:=dM af
   have HN:=dM aX
   have HR:=dM hr
   have HM:=dM hm
   have HQ:=dM U
   clear af aX hr hm U bi hn
   go_wp2_with fail
   have aZ:=ae.src q
   have bf:=Np (P:=prog) 179 5 64 fa s5 g 8 r bh .i64
   go_region_law(first
    |(refine Kh (w:=wr.drew) rfl (.tmp 15) (.tmp 16) _ _ rfl 5 ee s5 (some ⟨g,8+r,none⟩) L (64-r) (64-r) m I (by simp[Act.eval,Act.put]) (by simp[Act.eval,Act.put]) g (8+r) _ _ hb (c_ .u8 (D.take q)) q (by rw[b_,Y.out]) HQ.out (fun hp=>⟨rfl,aZ hp⟩) (by rw[Hg,N.out.1,N.out.2.2.1,b_,Y.out];omega) (oW _ _) ?_;intro O a8 av)
    |(go_simp;go_at_call 178;refine(aB wr.drew hb).mono ?_;rintro e w' ⟨rfl,rfl⟩))
   replace ag:=(nx ag).trans av
   have aT:=(show Src wr.drew g L D from ae).grown av (.inr rfl)
   have bn:Hid (Tabs O):=dM ((show Tabs wr.drew from HT.out).grown (Blk.drew hb) av)
   have ar:Blk O g 221 (HC F (splice blk r (D.take q)) B.length):=by
    rw[←By _ _ _ _ _ N.out.1 N.out.2.2.1 (by rw[Y.out];exact aU)];exact a8
   have aF:=N.out.1
   have aw:(splice blk r (D.take q)).length=64:=by rw[HR.out];exact(Li N.out _ (by rw[Y.out,←HR.out];exact aU)).2
   obtain⟨E,aJ⟩: ∃b,b=splice blk r (D.take q):=⟨_,rfl⟩
   rw[←aJ]at ar aw
   have aA:=fun(w':World) (h:Blk w' g 221 (HC F E B.length))=>Lx g F E B.length w' aF aw (by rw[←HN.out];omega) h
   rw[←HR.out]at aA
   have aP:=dM aJ
   have aa:=dM aF
   have G:=dM aw
   clear hb a8 av ae aB aZ bf aJ aF aw
   by_cases bk:r+q=64
   ·go_wp2_with(go_at_call 178;refine(aA _ ar).mono ?_;rintro e w' ⟨rfl,rfl⟩)
    have aS:(if B.length<64 then nX else F)=pL B (B.length/64):=N.out.soFar
    obtain⟨st,ad⟩:=yaa (pL B (B.length/64))
    have cs: ∀W,SS g (HC F E B.length) O W→Calls prog 180 #[.pointer (some ⟨g,0,none⟩)] W fun e w'=>e= .returned (.agg (c_ .u32 st).toArray)∧Below W.heap.size W w':=fun W h=>by
     have:=qI g F E B.length W aa.out G.out (by rw[←HN.out];omega) h.1 h.2.1.2
     rw[aS,←ad]at this;exact this
    obtain⟨M,hM⟩:=yaa (nI st E)
    have X:M.length=8:=by rw[hM,zN,ad,FD]
    have aI:Bytes E:=by rw[aP.out];exact N.out.2.2.2.1.splice (aO.out.take q) _
    have cm: ∀W,SS g (HC F E B.length) O W→Calls prog 179 #[.agg (c_ .u32 st).toArray,.agg (c_ .u8 E).toArray] W fun e w'=>e= .returned (.agg (c_ .u32 M).toArray)∧Below W.heap.size W w':=fun W h=>by
     have:=Jq st E W (by rw[ad,FD]) (by rw[ad];exact F4 _ _) G.out aI h.2.1.1
     rw[←hM]at this;exact this
    have bd: ∀W,SS g (HC F E B.length) O W→(storeCells ⟨g,0,none⟩ (c_ .u32 M) 0).run prog W= .ok () (W.setCells g 0 (c_ .u32 M)):=fun W h=>by
     have:=run_storeCells_cells (P:=prog) g 0 (c_ .u32 M) 0 W (fun j hj=>by simpa using((h.1.there 0 8 (by rw[Hg,aa.out,G.out];omega)) j (by rw[b_,X]at hj;exact hj)).1) (fun j hj=>by simpa using((h.1.there 0 8 (by rw[Hg,aa.out,G.out];omega)) j (by rw[b_,X]at hj;exact hj)).2) (oW _ _)
     simpa using this
    have aq:SS g (HC F E B.length) O O:=⟨ar,bn.out,ov _ _⟩
    have u35:=fa
    have bj:(prog.info? 179).map (·.size)=some (c_ .u8 E).length:=by rw[vY,b_,G.out]
    have bp:=dM ad
    have bq:=dM hM
    have bz:=dM aI
    clear aS ad hM aI
    have ai:=fun(W:World) (h:SS g (HC F E B.length) O W)=>h.1.range 8 _ (yC F E B.length aa.out)
    go_region_held3(fun W=>W.rangeAt g 8 (c_ .u8 E))
     (first|exact ai _ aq|exact ai _ aq.drew|exact ai _ ay|exact ai _ V|exact World.rangeAt_setCells_apart (ai _ V) g 0 _ (Or.inr (Or.inr (by simp[X]))))
     (first
      |(go_at_call 180;refine(cs _ aq.drew).mono ?_;rintro e w3 ⟨rfl,a7⟩;have ay:=aq.drew.below a7)
      |(go_at_call 179;refine(cm _ ay).mono ?_;rintro e w4 ⟨rfl,a6⟩;have V:=ay.below a6))
    have h5:=Iy g _ (c_ .u32 M) 0 _ w4 V.1 (by rw[Hg,aa.out,G.out,b_,X];omega)
    rw[yB _ _ _ _ aa.out X]at h5
    have bx:=V.2.1.grown V.1 h5.2
    have aG:=ag.trans (V.2.2.trans h5.2)
    have aD:=aT.grown (V.2.2.trans h5.2) (.inr rfl)
    obtain⟨ah,_⟩:=h5
    have bc:=fun(W:World) (h:Blk W g 221 (HC M E B.length))=>(h.cell 72).trans (FX M E B.length X G.out)
    have ab:=dM X
    generalize w4.setCells g 0 (c_ .u32 M)=w5 at*
    clear cs cm bd aq bj u35 ai ay V a7 a6 X
    rw[←HN.out]at ah bc
    have ak:HOk M E (B++D.take q):=by rw[bq.out,bp.out,aP.out,HR.out];exact N.out.full _ (aO.out.take q) (by rw[Y.out,←HR.out];exact bk)
    have am:n+q=(B++D.take q).length:=by rw[dS,Y.out,HN.out]
    have aE:=Nq (P:=prog) 46 5 ee s5 L m I q aV .i64
    obtain⟨R,Z⟩:=yaa ((if I=q then L else L.map (·.add q)))
    rw[←Z]at aE
    have aQ:=dM Z
    have aM:=dM ak
    have aN:=dM am
    clear Z ak am
    go_wp2_with(first
     |(refine FE rfl (some 36) rfl _ (.tmp 35) rfl g 72 rfl _ _ ah (.int .u64 (n:Int)) (FX _ _ _ ab.out G.out) .u64 kH ?_)
     |(refine tm rfl none rfl _ (.tmp 41) (.tmp 39) rfl g 72 (.int .u64 ((n:Int)+(q:Int))) rfl rfl rfl _ _ ah (by rw[Hg,ab.out,G.out];omega) Nx ?_;intro w6 ap ao))
    have aK:Blk w6 g 221 (HC M E (B++D.take q).length):=by
     have:=MB M E n (n+q) ab.out G.out
     rw[lB]at this
     rw[this]at ap
     rw[←aN.out];exact ap
    have aC:Src w6 g R (D.drop q):=by
     have h1:=aD.grown ao (.inr rfl)
     rw[aQ.out]
     by_cases aH:I=q
     ·rw[fo (by rw[←HM.out];omega)];exact Src.nil _ _ _
     ·rw[dN aH];exact h1.drop q
    go_roundw
    case rel=>
     refine⟨Q++D.take q,D.drop q,M,E,R,I-q,?_,?_,?_,?_,?_,aC,aG.trans ao⟩
     ·rw[az.out,fw,gu]
     ·rw[eq,HM.out]
     ·rw[eq,←HM.out];omega
     ·rw[←fw,←aj.out];exact aM.out
     ·rw[←fw,←aj.out];exact aK
    case measure=>simp[CU];omega
   ·have ah:Blk O g 221 (HC F E n):=by rw[HN.out];exact ar
    have ab:=aa
    have aD:=aT
    have aG:=ag
    have ak:HOk F E (B++D.take q):=by rw[aP.out,HR.out];exact N.out.part _ (aO.out.take q) (by rw[Y.out,←HR.out];omega)
    have am:n+q=(B++D.take q).length:=by rw[dS,Y.out,HN.out]
    have aE:=Nq (P:=prog) 46 5 ee s5 L m I q aV .i64
    obtain⟨R,Z⟩:=yaa ((if I=q then L else L.map (·.add q)))
    rw[←Z]at aE
    have aQ:=dM Z
    have aM:=dM ak
    have aN:=dM am
    clear Z ak am
    go_wp2_with(first
     |(go_at_call 178;refine(aA _ ar).mono ?_;rintro e w' ⟨rfl,rfl⟩)
     |(refine FE rfl (some 36) rfl _ (.tmp 35) rfl g 72 rfl _ _ ah (.int .u64 (n:Int)) (FX _ _ _ ab.out G.out) .u64 kH ?_)
     |(refine tm rfl none rfl _ (.tmp 41) (.tmp 39) rfl g 72 (.int .u64 ((n:Int)+(q:Int))) rfl rfl rfl _ _ ah (by rw[Hg,ab.out,G.out];omega) Nx ?_;intro w6 ap ao))
    have aK:Blk w6 g 221 (HC F E (B++D.take q).length):=by
     have:=MB F E n (n+q) ab.out G.out
     rw[lB]at this
     rw[this]at ap
     rw[←aN.out];exact ap
    have aC:Src w6 g R (D.drop q):=by
     have h1:=aD.grown ao (.inr rfl)
     rw[aQ.out]
     by_cases aH:I=q
     ·rw[fo (by rw[←HM.out];omega)];exact Src.nil _ _ _
     ·rw[dN aH];exact h1.drop q
    go_roundw
    case rel=>
     refine⟨Q++D.take q,D.drop q,F,E,R,I-q,?_,?_,?_,?_,?_,aC,aG.trans ao⟩
     ·rw[az.out,fw,gu]
     ·rw[eq,HM.out]
     ·rw[eq,←HM.out];omega
     ·rw[←fw,←aj.out];exact aM.out
     ·rw[←fw,←aj.out];exact aK
    case measure=>simp[CU];omega
  ·have HP:Hid (D=[]):=dM (ea (by omega))
   go_wp2_with fail
   go_end0
   refine⟨rfl,⟨F,blk,?_,?_⟩,ag⟩
   ·rw[az.out,HP.out,fM,←aj.out];exact af
   ·rw[az.out,HP.out,fM,←aj.out];exact hb
theorem Om:(prog.info? 221).map (·.zero)=some (some (.agg (HC (List.replicate 8 0) (List.replicate 64 0) 0).toArray)):=by kernel_rfl
theorem Ea:prog.built 179 []=some (c_ .u8 (List.replicate 64 0)).toArray:=by kernel_rfl
theorem CD (rest:List Int) (h:rest.length<64):(splice (c_ .u8 (List.replicate 64 0)) 0 (c_ .u8 rest)).set rest.length (.int .u8 128)=c_ .u8 (nZ rest):=by
 have e:splice (c_ .u8 (List.replicate 64 0)) 0 (c_ .u8 rest)=c_ .u8 (rest++List.replicate (64-rest.length) 0):=by
  rw[splice,jG,fs,eL,b_,vX]
  congr 1
  simp only[c_,←List.map_drop,List.drop_replicate]
 rw[e,BR,nZ]
 congr 1
 rw[ir _ _ (dQ _),hZ]
 obtain⟨k,q⟩: ∃k,64-rest.length=k+1:=⟨63-rest.length,by omega⟩
 rw[q,List.replicate_succ,gt,show 63-rest.length=k by omega]
theorem Tabs.ofBelow {w w':World} (h:Tabs w) (q:Below w.heap.size w w'):Tabs w':=h.below q
theorem Da (g:Nat) (R:List Int) (w:World) (hn:R.length<2305843009213693952) (bW:DT w g R) (bJ:Tabs w):
  Calls prog 155 #[.pointer (some ⟨g,0,none⟩)] w fun e w'=>e= .returned (.agg (c_ .u8 (pq R)).toArray)∧Below w.heap.size w w':=by
 obtain⟨Z,blk,aA,E⟩:=bW
 obtain⟨n,aF⟩:=yaa R.length
 obtain⟨r,hr⟩:=yaa (n%64)
 have ch:r<64:=by omega
 have bO:n<2305843009213693952:=by omega
 obtain⟨rest,bc⟩:=yaa (R.drop (64*(R.length/64)))
 have bM:rest.length=r:=by rw[bc,eq,hr,aF];omega
 have bj:blk.take r=rest:=by rw[bc,hr,aF];exact aA.2.2.2.2.1
 obtain⟨F,aB⟩:=yaa (pL R (R.length/64))
 have bm:(if R.length<64 then nX else Z)=F:=by rw[aB];exact aA.soFar
 have bL:F.length=8:=by rw[aB,FD]
 have bK:Words F:=by rw[aB];exact F4 _ _
 have bN:Bytes rest:=by rw[←bj];exact aA.2.2.2.1.take r
 have bb:=aA.1
 have bf:=aA.2.2.1
 have bi:=fun(g:Nat) (W:World) (h:Blk W g 221 (HC Z blk n))=>Lx g Z blk n W bb bf bO h
 have bl:=fun(g:Nat) (W:World) (h:Blk W g 221 (HC Z blk n)) (ht:Tabs W)=>qI g Z blk n W bb bf bO h ht.2
 rw[←aF]at bm E
 rw[←hr]at bi
 rw[bm]at bl
 have cf:=fun(g:Nat)=>LG (P:=prog) 179 5 64 fa s5 g 8 r (by omega) (by omega) .i64
 have ce:=fun(g:Nat)=>FF (P:=prog) 179 5 64 fa s5 g 0 (by omega)
 have cg: ∀(g:Nat) (w:World),(Instr.sliceAt 179 (.pointer (some ⟨g,0,none⟩)) (some (.int .i64 56)) none none).run prog w= .ok (.slice (some ⟨g,56,none⟩) 8 8) w:=fun(g:Nat)=>Np (P:=prog) 179 5 64 fa s5 g 0 56 (by omega) .i64
 have cc:=dM aB
 have N:=dM bL
 have a8:=dM bK
 have HN:=dM aF
 have G:=dM bM
 have bU:=dM bj
 have cd:=dM bc
 have bG:=dM bN
 have bg:=dM bb
 have bV:=dM bf
 have HT:=dM bJ
 have HR:=dM hr
 clear aB bL bK aF bM bj bc bN bb bf aA bJ bm hn hr
 have hcut:Hid (∀_:Unit,pq R=pQ (if 64-r-1<8 then nI (nI F (nZ rest)) (oC (List.replicate 64 0) (n*8) 8)else nI F (oC (nZ rest) (n*8) 8)) 8):=dM (fun _=>by
  rw[pq,pW,cc.out,cd.out,HN.out,HR.out,HN.out])
 by_cases bd:64-r-1<8
 ·go_enter func155,ntmps155
  go_wp2_with(first
   |(refine nG rfl (some 2) rfl _ rfl _ z24 ?_;intro g2 w2 b3 X q;have I:=(dU _ w).grown q (dQ _) (by simp);replace E:=E.grownN q;clear q;try go_frame;try go_frame)
   |(refine nG rfl (some 3) rfl _ rfl _ FH ?_;intro g3 U aj aN q;have b2:g<g3:=dX E.lt aj;have cb:g2<g3:=dX X.lt aj;have b7:w.heap.size≤g3:=dV I.size aj;replace I:=I.grown q I.size (by simp);replace X:=X.grownN q;replace E:=E.grownN q;clear q;try go_frame;try go_frame))
  have aC: ∀j v,(c_ .u8 rest)[j]? =some v→U.drew.cell? ((⟨g,8,none⟩:Addr).add j)=some v:=fun j v V=>by
   rw[eW]
   refine(E.cell (8+j)).trans (yC Z blk n bg.out j v ?_)
   rw[←bU.out]at V
   simp only[c_,j3,gI]at V
   split at V
   ·exact V
   ·cases V
  go_region_law(first
   |(refine Kh (w:=U.drew) rfl (.tmp 10) (.tmp 16) _ _ rfl 5 ee s5 (some ⟨g3,0,none⟩) (some ⟨g,8,none⟩) 64 64 r 64 (by simp[Act.eval,Act.put]) (by simp[Act.eval,Act.put]) g3 0 _ _ aN.drew (c_ .u8 rest) r (by rw[b_,G.out]) (fK (by omega)).symm (fun _=>⟨rfl,_,rfl,aC⟩) (by rw[b_,b_,G.out,eQ];omega) (oW _ _) ?_;intro w4 bw aG)
   |(go_simp;go_at_call 178;refine(bi g U.drew E.drew).mono ?_;rintro e w' ⟨rfl,rfl⟩))
  have aa:U.grownBy w4 (some g3):=(nx (ov U _)).trans aG
  have ay:=I.grown aa I.size (by intro k B;injection B with B;omega)
  have bx:=X.grown aa (by intro h;injection h with h;omega)
  have bt:=E.grown aa (by intro h;injection h with h;omega)
  have b5:Hid (Tabs w4):=dM (HT.out.ofBelow ay)
  clear aG aa I X E aN aC
  go_wp2_with(first
   |(refine tm rfl none rfl _ (.tmp 19) (Operand.const (.int .u8 128)) rfl g3 r (.int .u8 128) rfl rfl rfl _ _ bw (by rw[j2 _ _ _ (by rw[b_,b_,G.out,eQ];omega),b_,eQ];omega) s5 ?_;intro w5 aM q;have aE:Blk w5 g3 179 (c_ .u8 (nZ rest)):=(by rw[←CD rest (by rw[G.out];omega),G.out];exact aM);have ax:=ay.grown q ay.size (by intro k B;injection B with B;omega);have a6:=bx.grown q (by intro h;injection h with h;omega);have ai:=bt.grown q (by intro h;injection h with h;omega);clear q aM;try go_frame;try go_frame)
   |(go_at_call 180;refine(bl g w5 ai (HT.out.ofBelow ax)).mono ?_;rintro e w6 ⟨rfl,D⟩;have aw:=ax.trans (D.mono ax.size);have bE:=a6.below D a6.lt;have aJ:=ai.below D ai.lt;have aD:=aE.below D aE.lt;clear D;try go_frame)
   |(refine nG rfl (some 5) rfl _ rfl _ Iz ?_;intro Q w7 ah bv q;have b8:g3<Q:=dX aD.lt ah;have b1:g<Q:=dX aJ.lt ah;have b6:w.heap.size≤Q:=dV aw.size ah;have aV:=aw.grown q aw.size (by simp);have bD:=bE.grownN q;have bq:=aJ.grownN q;have bp:=aD.grownN q;clear q;try go_frame;try go_frame)
   |(refine nn rfl none rfl _ (.tmp 5) (.tmp 21) rfl Q 0 (c_ .u32 F) rfl rfl _ _ bv (by simp[N.out]) (by rw[qJ,b_,N.out]) (oW _ _) ?_;intro w8 ad q;rw[nr _ _ (by simp[N.out])]at ad;have av:=aV.grown q aV.size (by intro k B;injection B with B;omega);have aZ:=bD.grown q (by intro h;injection h with h;omega);have aI:=bq.grown q (by intro h;injection h with h;omega);have az:=bp.grown q (by intro h;injection h with h;omega);clear q;try go_frame;try go_frame)
   |(refine pO rfl (some 28) rfl _ (.tmp 5) rfl _ 0 rfl _ _ ad (c_ .u32 F) (by simp) _ fu rfl (by rw[qJ,b_,N.out]) ?_;try go_frame;try go_frame)
   |(refine pO rfl (some 29) rfl _ (.tmp 3) rfl _ 0 rfl _ _ az (c_ .u8 (nZ rest)) (by simp) _ fa rfl (by rw[vY,b_,D3 (by rw[G.out];omega)]) ?_;try go_frame;try go_frame)
   |(go_at_call 179;refine(Jq F (nZ rest) w8 N.out a8.out (D3 (by rw[G.out];omega)) (sh bG.out) (HT.out.ofBelow av).1).mono ?_;rintro e w9 ⟨rfl,D⟩;have bS:=av.trans (D.mono av.size);have ca:=aZ.below D aZ.lt;have b0:=aI.below D aI.lt;have bY:=az.below D az.lt;have b4:=ad.below D ad.lt;clear D;try go_frame)
   |(refine nn rfl none rfl _ (.tmp 5) (.tmp 30) rfl Q 0 (c_ .u32 (nI F (nZ rest))) rfl rfl _ _ b4 (by simp[N.out,zN]) (by rw[qJ,b_,zN,N.out]) (oW _ _) ?_;intro wa bQ q;rw[nr _ _ (by simp[N.out,zN])]at bQ;have bR:=bS.grown q bS.size (by intro k B;injection B with B;omega);have b9:=ca.grown q (by intro h;injection h with h;omega);have bZ:=b0.grown q (by intro h;injection h with h;omega);have bX:=bY.grown q (by intro h;injection h with h;omega);clear q;try go_frame;try go_frame)
   |(refine wpList_buildTo rfl _ _ rfl (some 31) rfl _ Ea ?_;try go_frame;try go_frame)
   |(refine nn rfl none rfl _ (.tmp 3) (.tmp 31) rfl g3 0 (c_ .u8 (List.replicate 64 0)) rfl rfl _ _ bX (by rw[b_,b_,D3 (by rw[G.out];omega)];simp) (by rw[vY];rfl) (oW _ _) ?_;intro wb bo q;rw[nr _ _ (by rw[b_,b_,D3 (by rw[G.out];omega)];simp)]at bo;have bA:=bR.grown q bR.size (by intro k B;injection B with B;omega);have bT:=b9.grown q (by intro h;injection h with h;omega);have bP:=bZ.grown q (by intro h;injection h with h;omega);have bu:=bQ.grown q (by intro h;injection h with h;omega);clear q;try go_frame;try go_frame))
  try go_frame
  have bk:=(bP.cell 72).trans (FX Z blk n bg.out bV.out)
  have ar:(List.replicate 64 (0:Int)).length=64:=by first|(exact D3 (by rw[G.out];omega))|simp
  have aQ:Bytes (List.replicate 64 (0:Int)):=by first|exact sh bG.out|exact Bytes.rep 64
  have af:=fun W (h:Blk W g3 179 (c_ .u8 (List.replicate 64 (0:Int))))=>M6 g3 (List.replicate 64 (0:Int)) ((n:Int)*8) W ar (by omega) (by omega) h
  have ap:(nI F (nZ rest)).length=8:=by first|exact N.out|(rw[zN,N.out])
  have ao:Words (nI F (nZ rest)):=by first|exact a8.out|(exact fun i=>D_ _ _ a8.out i)
  have aq:Bytes (oC (List.replicate 64 (0:Int)) ((n:Int)*8) 8):=fun i=>se _ _ aQ 8 i
  obtain⟨S,am⟩:=yaa (nI F (nZ rest))
  obtain⟨L,ae⟩:=yaa (oC (List.replicate 64 (0:Int)) ((n:Int)*8) 8)
  have aR:L.length=64:=by rw[ae,oE,ar]
  rw[←am]at ap ao bu
  rw[←ae]at aq af
  have bF:=dM am
  have bI:=dM ae
  have Y:=dM ap
  have a7:=dM ao
  have bH:=dM aq
  have ba:=dM aR
  clear am ae ap ao aq ar aQ aR
  have bh:IntKind.u64.wrap ((n:Int)*8)=(n:Int)*8:=by rw[IntKind.wrap_u64];omega
  go_region_law(go_simp;go_at_call 181;((with_reducible refine(af _ bo.drew).mono ?_);rintro e wp ⟨rfl,bn,aH⟩))
  clear bh
  have ab:Go.World.grownBy wb wp (some g3):=(nx (ov wb _)).trans aH
  have au:=bA.grown ab bA.size (by intro k B;injection B with B;omega)
  have aY:=bT.grown ab (by intro h;injection h with h;omega)
  have ak:=bu.grown ab (by intro h;injection h with h;omega)
  clear aH ab bk af bA bT bP bu bo
  have ag:=Jq S L wp Y.out a7.out ba.out bH.out (HT.out.ofBelow au).1
  have O:Hid ((nI S L).length=8):=dM (by rw[zN,Y.out])
  have aP:Hid (Words (nI S L)):=dM (fun i=>D_ _ _ a7.out i)
  have aK:Hid (∀_:Unit,pq R=pQ (nI S L) 8):=dM (fun _=>by rw[hcut.out (),bF.out,bI.out];first|rw[dP bd]|rw[dN bd])
  obtain⟨M,aO⟩:=yaa (nI S L)
  rw[←aO]at ag O aP aK
  clear aO
  go_wp2_with(first
   |(refine pO rfl (some 39) rfl _ (.tmp 5) rfl _ 0 rfl _ _ ak (c_ .u32 S) (by simp) _ fu rfl (by rw[qJ,b_,Y.out]) ?_;try go_frame;try go_frame)
   |(refine pO rfl (some 40) rfl _ (.tmp 3) rfl _ 0 rfl _ _ bn (c_ .u8 L) (by simp) _ fa rfl (by rw[vY,b_,ba.out]) ?_;try go_frame;try go_frame)
   |(go_at_call 179;refine ag.mono ?_;rintro e wq ⟨rfl,D⟩;have aU:=au.trans (D.mono au.size);have bC:=aY.below D aY.lt;have br:=ak.below D ak.lt;clear D ag;try go_frame)
   |(refine nn rfl none rfl _ (.tmp 5) (.tmp 41) rfl Q 0 (c_ .u32 M) rfl rfl _ _ br (by simp[Y.out,O.out]) (by rw[qJ,b_,O.out]) (oW _ _) ?_;intro wr aL q;rw[nr _ _ (by simp[Y.out,O.out])]at aL;have aT:=aU.grown q aU.size (by intro k B;injection B with B;omega);have aX:=bC.grown q (by intro h;injection h with h;omega);clear q;try go_frame;try go_frame)
   |(refine pO rfl (some 42) rfl _ (.tmp 5) rfl _ 0 rfl _ _ aL (c_ .u32 M) (by simp) _ fu rfl (by rw[qJ,b_,O.out]) ?_;try go_frame;try go_frame)
   |(go_at_call 182;refine(M9 M wr O.out aP.out).mono ?_;rintro e ws ⟨rfl,D⟩;have aS:=aT.trans (D.mono aT.size);have bB:=aX.below D aX.lt;clear D;try go_frame)
   |(refine nn rfl none rfl _ (.tmp 2) (.tmp 43) rfl g2 0 (c_ .u8 (pQ M 8)) rfl rfl _ _ bB (by simp) (by rw[rP,b_,nR]) (oW _ _) ?_;intro wt aW q;rw[nr _ _ (by simp)]at aW;have bz:=aS.grown q aS.size (by intro k B;injection B with B;omega);clear q;try go_frame;try go_frame))
  exact dW (v:= .agg (c_ .u8 (pQ M 8)).toArray) (wv results155 _ _ g2 _ _ _ rfl aW gG rfl (by rw[rP,b_,nR])) rfl ⟨by rw[←aK.out ()],bz⟩
 ·go_enter func155,ntmps155
  go_wp2_with(first
   |(refine nG rfl (some 2) rfl _ rfl _ z24 ?_;intro g2 w2 b3 X q;have I:=(dU _ w).grown q (dQ _) (by simp);replace E:=E.grownN q;clear q;try go_frame;try go_frame)
   |(refine nG rfl (some 3) rfl _ rfl _ FH ?_;intro g3 U aj aN q;have b2:g<g3:=dX E.lt aj;have cb:g2<g3:=dX X.lt aj;have b7:w.heap.size≤g3:=dV I.size aj;replace I:=I.grown q I.size (by simp);replace X:=X.grownN q;replace E:=E.grownN q;clear q;try go_frame;try go_frame))
  have aC: ∀j v,(c_ .u8 rest)[j]? =some v→U.drew.cell? ((⟨g,8,none⟩:Addr).add j)=some v:=fun j v V=>by
   rw[eW]
   refine(E.cell (8+j)).trans (yC Z blk n bg.out j v ?_)
   rw[←bU.out]at V
   simp only[c_,j3,gI]at V
   split at V
   ·exact V
   ·cases V
  go_region_law(first
   |(refine Kh (w:=U.drew) rfl (.tmp 10) (.tmp 16) _ _ rfl 5 ee s5 (some ⟨g3,0,none⟩) (some ⟨g,8,none⟩) 64 64 r 64 (by simp[Act.eval,Act.put]) (by simp[Act.eval,Act.put]) g3 0 _ _ aN.drew (c_ .u8 rest) r (by rw[b_,G.out]) (fK (by omega)).symm (fun _=>⟨rfl,_,rfl,aC⟩) (by rw[b_,b_,G.out,eQ];omega) (oW _ _) ?_;intro w4 bw aG)
   |(go_simp;go_at_call 178;refine(bi g U.drew E.drew).mono ?_;rintro e w' ⟨rfl,rfl⟩))
  have aa:U.grownBy w4 (some g3):=(nx (ov U _)).trans aG
  have ay:=I.grown aa I.size (by intro k B;injection B with B;omega)
  have bx:=X.grown aa (by intro h;injection h with h;omega)
  have bt:=E.grown aa (by intro h;injection h with h;omega)
  have b5:Hid (Tabs w4):=dM (HT.out.ofBelow ay)
  clear aG aa I X E aN aC
  go_wp2_with(first
   |(refine tm rfl none rfl _ (.tmp 19) (Operand.const (.int .u8 128)) rfl g3 r (.int .u8 128) rfl rfl rfl _ _ bw (by rw[j2 _ _ _ (by rw[b_,b_,G.out,eQ];omega),b_,eQ];omega) s5 ?_;intro w5 aM q;have aE:Blk w5 g3 179 (c_ .u8 (nZ rest)):=(by rw[←CD rest (by rw[G.out];omega),G.out];exact aM);have ax:=ay.grown q ay.size (by intro k B;injection B with B;omega);have a6:=bx.grown q (by intro h;injection h with h;omega);have ai:=bt.grown q (by intro h;injection h with h;omega);clear q aM;try go_frame;try go_frame)
   |(go_at_call 180;refine(bl g w5 ai (HT.out.ofBelow ax)).mono ?_;rintro e w6 ⟨rfl,D⟩;have aw:=ax.trans (D.mono ax.size);have bE:=a6.below D a6.lt;have aJ:=ai.below D ai.lt;have aD:=aE.below D aE.lt;clear D;try go_frame)
   |(refine nG rfl (some 5) rfl _ rfl _ Iz ?_;intro Q w7 ah bv q;have b8:g3<Q:=dX aD.lt ah;have b1:g<Q:=dX aJ.lt ah;have b6:w.heap.size≤Q:=dV aw.size ah;have aV:=aw.grown q aw.size (by simp);have bD:=bE.grownN q;have bq:=aJ.grownN q;have bp:=aD.grownN q;clear q;try go_frame;try go_frame)
   |(refine nn rfl none rfl _ (.tmp 5) (.tmp 21) rfl Q 0 (c_ .u32 F) rfl rfl _ _ bv (by simp[N.out]) (by rw[qJ,b_,N.out]) (oW _ _) ?_;intro w8 ad q;rw[nr _ _ (by simp[N.out])]at ad;have av:=aV.grown q aV.size (by intro k B;injection B with B;omega);have aZ:=bD.grown q (by intro h;injection h with h;omega);have aI:=bq.grown q (by intro h;injection h with h;omega);have az:=bp.grown q (by intro h;injection h with h;omega);clear q;try go_frame;try go_frame))
  try go_frame
  have bk:=(aI.cell 72).trans (FX Z blk n bg.out bV.out)
  have ar:(nZ rest).length=64:=by first|(exact D3 (by rw[G.out];omega))|simp
  have aQ:Bytes (nZ rest):=by first|exact sh bG.out|exact Bytes.rep 64
  have af:=fun W (h:Blk W g3 179 (c_ .u8 (nZ rest)))=>M6 g3 (nZ rest) ((n:Int)*8) W ar (by omega) (by omega) h
  have ap:(F).length=8:=by first|exact N.out|(rw[zN,N.out])
  have ao:Words (F):=by first|exact a8.out|(exact fun i=>D_ _ _ a8.out i)
  have aq:Bytes (oC (nZ rest) ((n:Int)*8) 8):=fun i=>se _ _ aQ 8 i
  obtain⟨S,am⟩:=yaa F
  obtain⟨L,ae⟩:=yaa (oC (nZ rest) ((n:Int)*8) 8)
  have aR:L.length=64:=by rw[ae,oE,ar]
  rw[←am]at ap ao ad
  rw[←ae]at aq af
  have bF:=dM am
  have bI:=dM ae
  have Y:=dM ap
  have a7:=dM ao
  have bH:=dM aq
  have ba:=dM aR
  clear am ae ap ao aq ar aQ aR
  have bh:IntKind.u64.wrap ((n:Int)*8)=(n:Int)*8:=by rw[IntKind.wrap_u64];omega
  go_region_law(go_simp;go_at_call 181;((with_reducible refine(af _ az.drew).mono ?_);rintro e wp ⟨rfl,bn,aH⟩))
  clear bh
  have ab:Go.World.grownBy w8 wp (some g3):=(nx (ov w8 _)).trans aH
  have au:=av.grown ab av.size (by intro k B;injection B with B;omega)
  have aY:=aZ.grown ab (by intro h;injection h with h;omega)
  have ak:=ad.grown ab (by intro h;injection h with h;omega)
  clear aH ab bk af av aZ aI ad az
  have ag:=Jq S L wp Y.out a7.out ba.out bH.out (HT.out.ofBelow au).1
  have O:Hid ((nI S L).length=8):=dM (by rw[zN,Y.out])
  have aP:Hid (Words (nI S L)):=dM (fun i=>D_ _ _ a7.out i)
  have aK:Hid (∀_:Unit,pq R=pQ (nI S L) 8):=dM (fun _=>by rw[hcut.out (),bF.out,bI.out];first|rw[dP bd]|rw[dN bd])
  obtain⟨M,aO⟩:=yaa (nI S L)
  rw[←aO]at ag O aP aK
  clear aO
  go_wp2_with(first
   |(refine pO rfl (some 39) rfl _ (.tmp 5) rfl _ 0 rfl _ _ ak (c_ .u32 S) (by simp) _ fu rfl (by rw[qJ,b_,Y.out]) ?_;try go_frame;try go_frame)
   |(refine pO rfl (some 40) rfl _ (.tmp 3) rfl _ 0 rfl _ _ bn (c_ .u8 L) (by simp) _ fa rfl (by rw[vY,b_,ba.out]) ?_;try go_frame;try go_frame)
   |(go_at_call 179;refine ag.mono ?_;rintro e wq ⟨rfl,D⟩;have aU:=au.trans (D.mono au.size);have bC:=aY.below D aY.lt;have br:=ak.below D ak.lt;clear D ag;try go_frame)
   |(refine nn rfl none rfl _ (.tmp 5) (.tmp 41) rfl Q 0 (c_ .u32 M) rfl rfl _ _ br (by simp[Y.out,O.out]) (by rw[qJ,b_,O.out]) (oW _ _) ?_;intro wr aL q;rw[nr _ _ (by simp[Y.out,O.out])]at aL;have aT:=aU.grown q aU.size (by intro k B;injection B with B;omega);have aX:=bC.grown q (by intro h;injection h with h;omega);clear q;try go_frame;try go_frame)
   |(refine pO rfl (some 42) rfl _ (.tmp 5) rfl _ 0 rfl _ _ aL (c_ .u32 M) (by simp) _ fu rfl (by rw[qJ,b_,O.out]) ?_;try go_frame;try go_frame)
   |(go_at_call 182;refine(M9 M wr O.out aP.out).mono ?_;rintro e ws ⟨rfl,D⟩;have aS:=aT.trans (D.mono aT.size);have bB:=aX.below D aX.lt;clear D;try go_frame)
   |(refine nn rfl none rfl _ (.tmp 2) (.tmp 43) rfl g2 0 (c_ .u8 (pQ M 8)) rfl rfl _ _ bB (by simp) (by rw[rP,b_,nR]) (oW _ _) ?_;intro wt aW q;rw[nr _ _ (by simp)]at aW;have bz:=aS.grown q aS.size (by intro k B;injection B with B;omega);clear q;try go_frame;try go_frame))
  exact dW (v:= .agg (c_ .u8 (pQ M 8)).toArray) (wv results155 _ _ g2 _ _ _ rfl aW gG rfl (by rw[rP,b_,nR])) rfl ⟨by rw[←aK.out ()],bz⟩
def Part:Type:=Option Addr×Nat×List Int
def Part.val (p:Part):Value:= .slice p.1 p.2.2.length p.2.1
def flat (ps:List Part):List Int:=(ps.map fun p=>p.2.2).flatten
def PartOk (w:World) (p:Part):Prop:=Bytes p.2.2∧p.2.2.length≤p.2.1∧Lies w p.1 p.2.2
theorem PartOk.below {w w':World} {p:Part} (h:PartOk w p) (q:Below w.heap.size w w'):PartOk w' p:=⟨h.1,h.2.1,h.2.2.below q⟩
def Fs (w:World) (P:Option Addr) (ps:List Part):Prop:=
 0<ps.length→ ∃b o,P=some ⟨b,o,none⟩∧b<w.heap.size∧ ∀j p,ps[j]? =some p→w.cell? ⟨b,o+j,none⟩=some p.val
theorem A4 (q:List Part) (j:Nat) (p:Part) (h:q[j]? =some p):flat (q.take (j+1))=flat (q.take j)++p.2.2:=by
 rw[j8,h]
 simp[flat]
theorem E6 (q:List Part) (j:Nat):(flat (q.take j)).length≤(flat q).length:=by
 have:flat q=flat (q.take j)++flat (q.drop j):=by
  rw[flat,flat,flat,←List.flatten_append,←gl,gu]
 rw[this,dS];omega
theorem uM (P:Option Addr) (q:List Part) (c:Nat) (w:World) (aC:q.length≤9223372036854775807) (hn:(flat q).length<2305843009213693952) (ai: ∀p∈q,PartOk w p) (av:Fs w P q) (ad:Tabs w):
  Calls prog 120 #[.slice P q.length c] w fun e w'=>e= .returned (.agg (c_ .u8 (pq (flat q))).toArray)∧Below w.heap.size w w':=by
 have aH:=dM ai
 have aI:=dM av
 have HT:=dM ad
 obtain⟨k,E⟩:=yaa q.length
 rw[←E]at aC⊢
 have HK:=dM E
 clear ai av ad E
 go_enter func120,ntmps120
 go_wp2_with(first
  |(refine nG rfl (some 2) rfl _ rfl _ z24 ?_;intro g2 w2 aJ I B;have F:=(dU _ w).grown B (dQ _) (by simp);clear B;try go_frame)
  |(refine nG rfl (some 3) rfl _ rfl _ Om ?_;intro g3 U ap au B;have aL:g2<g3:=dX I.lt ap;have aF:w.heap.size≤g3:=dV F.size ap;replace F:=F.grown B F.size (by simp);replace I:=I.grownN B;clear B;try go_frame))
 have aw:Hid (Tabs U):=dM (HT.out.ofBelow F)
 have aD:=dM I
 have ab:=dM au
 have M:=dM F
 clear F I au
 go_loopw[8] (fun i wr=> ∃j:Nat,j≤k∧i= .int .i64 j∧DT wr g3 (flat (q.take j))∧U.grownBy wr (some g3)) (fun i _=>k-(intOf i).toNat)
 case atStart=>exact⟨0,by omega,rfl,⟨_,_,HOk.zero,ab.out⟩,ov _ _⟩
 case round=>
  obtain⟨j,hj,rfl,ah,B⟩:=hrel
  have aa:=dM ah
  have G:=dM B
  clear ah B
  by_cases aB:j<k
  ·obtain⟨p,O⟩: ∃p,q[j]? =some p:=⟨q[j]'(by rw[←HK.out];exact aB),dZ _⟩
   obtain⟨ar,aj,ak⟩:=aH.out p (lr O)
   obtain⟨b,o,rfl,Z,aq⟩:=aI.out (by rw[←HK.out];omega)
   have W:wr.cell? ⟨b,o+j,none⟩=some p.val:=by
    rw[jC (w:=U) (G.out.block b (dX Z M.out.size) (by intro e;injection e with e;omega)),M.out.cell Z]
    exact aq j p O
   have ae:Src wr g3 p.1 p.2.2:=by
    have h1:=Src.grown (ak.src aF) (od M.out none) (.inl rfl)
    exact h1.grown G.out (.inr rfl)
   have L:Tabs wr:=by
    obtain⟨s0,b0,_,aK⟩:=aa.out
    exact aw.out.grown ab.out G.out
   have am:=E6 q (j+1)
   have X:=A4 q j p O
   rw[X,dS]at am
   have N:=zP g3 (flat (q.take j)) p.2.2 p.1 p.2.1 wr ar aj (by omega) aa.out ae L
   rw[←X]at N
   clear ar aj ak aq ae L am X O Z
   unfold Part.val at W
   obtain⟨A,c',xs⟩:=p
   simp only at W N
   go_wp2_with(go_at_call 154;refine N.mono ?_;rintro e w4 ⟨rfl,af,ao⟩;have H4:=dM (And.intro af (G.out.trans ao));clear af ao N W)
   go_roundw
   case rel=>exact⟨j+1,by omega,by go_num,H4.out.1,H4.out.2⟩
   case measure=>simp[intOf];omega
  ·have HJ:=dM (show j=q.length by rw[←HK.out];omega)
   have ag:DT wr g3 (flat q):=by
    have:=aa.out
    rw[HJ.out,g9]at this;exact this
   have L:Tabs wr:=aw.out.grown ab.out G.out
   have V:=Da g3 (flat q) wr hn ag L
   have ay:=M.out.grown G.out M.out.size (by intro k E;injection E with E;omega)
   have aA:=aD.out.grown G.out (by intro h;injection h with h;omega)
   obtain⟨D,Q⟩:=yaa (pq (flat q))
   have R:=dM (show D.length=32 by rw[Q,ww])
   rw[←Q]at V
   have HD:=dM (fun _:Unit=>Q)
   clear Q ag L
   go_wp2_with(first
    |(go_at_call 155;refine V.mono ?_;rintro e w5 ⟨rfl,Y⟩;have ax:=ay.trans (Y.mono ay.size);have aG:=aA.below Y aA.lt;clear Y V)
    |(refine nn rfl none rfl _ (.tmp 2) (.tmp 15) rfl g2 0 (c_ .u8 D) rfl rfl _ _ aG (by simp[R.out]) (by rw[rP,b_,R.out]) (oW _ _) ?_;intro w6 az B;rw[nr _ _ (by simp[R.out])]at az;have aE:=ax.grown B ax.size (by intro k E;injection E with E;omega);clear B;try go_frame))
   exact dW (v:= .agg (c_ .u8 D).toArray) (wv results120 _ _ g2 _ _ _ rfl az gG rfl (by rw[rP,b_,R.out])) rfl ⟨by rw[HD.out ()],aE⟩
theorem vn (A:Option Addr) (c:Nat) (xs:List Int):flat [((A,c,xs):Part)]=xs:=by show List.flatten [xs]=xs;simp
theorem vm (A B:Option Addr) (c d:Nat) (xs q:List Int):flat [((A,c,xs):Part),((B,d,q):Part)]=xs++q:=by show List.flatten [xs,q]=xs++q;simp
theorem C4 (A:Option Addr) (c:Nat) (xs:List Int) (w:World) (M:xs.length≤c) (G:xs.length<2305843009213693952) (D:Bytes xs) (I:Lies w A xs) (F:Tabs w) (t:TypeId):
  Calls prog 120 #[.slice (some ⟨w.heap.size,0,none⟩) 1 1] (w.alloc (.cells #[.slice A xs.length c] t)) fun e w'=>e= .returned (.agg (c_ .u8 (pq xs)).toArray)∧Below w.heap.size w w':=by
 have B:Below w.heap.size w (w.alloc (.cells #[.slice A xs.length c] t)):=(dU _ w).alloc (dQ _) _
 have h:=uM (some ⟨w.heap.size,0,none⟩) [((A,c,xs):Part)] 1 (w.alloc (.cells #[.slice A xs.length c] t)) (by show 1≤_;decide) (by rw[vn];exact G)
  (fun p q=>by rw[eh.1 q];exact PartOk.below ⟨D,M,I⟩ B)
  (fun _=>⟨w.heap.size,0,rfl,by simp,fun j p q=>by
   match j,q with
   |0,q=>
    injection q with q
    subst q
    rw[ki _ _ _ _ t (0,0) (eC w _)]
    rfl⟩) (F.below B)
 rw[vn]at h
 exact h.mono fun e w' ⟨L,E⟩=>⟨L,B.trans (E.mono B.size)⟩
theorem uL (A B:Option Addr) (c d:Nat) (xs D:List Int) (w:World) (R:xs.length≤c) (Q:D.length≤d) (L:xs.length+D.length<2305843009213693952) (F:Bytes xs) (hy:Bytes D) (N:Lies w A xs) (M:Lies w B D) (I:Tabs w) (t:TypeId):
  Calls prog 120 #[.slice (some ⟨w.heap.size,0,none⟩) 2 2] (w.alloc (.cells #[.slice A xs.length c,.slice B D.length d] t)) fun e w'=>e= .returned (.agg (c_ .u8 (pq (xs++D))).toArray)∧Below w.heap.size w w':=by
 have E:Below w.heap.size w (w.alloc (.cells #[.slice A xs.length c,.slice B D.length d] t)):=(dU _ w).alloc (dQ _) _
 have h:=uM (some ⟨w.heap.size,0,none⟩) [((A,c,xs):Part),((B,d,D):Part)] 2 (w.alloc (.cells #[.slice A xs.length c,.slice B D.length d] t)) (by show 2≤_;decide) (by rw[vm,dS];exact L)
  (fun p q=>by
   rcases eF.1 q with rfl|q
   ·exact PartOk.below ⟨F,R,N⟩ E
   ·rw[eh.1 q];exact PartOk.below ⟨hy,Q,M⟩ E)
  (fun _=>⟨w.heap.size,0,rfl,by simp,fun j p q=>by
   match j,q with
   |0,q=>
    injection q with q
    subst q
    rw[ki _ _ _ _ t (0,0) (eC w _)]
    rfl
   |1,q=>
    injection q with q
    subst q
    rw[ki _ _ _ _ t (0,0) (eC w _)]
    rfl⟩) (I.below E)
 rw[vm]at h
 exact h.mono fun e w' ⟨O,G⟩=>⟨O,E.trans (G.mono E.size)⟩
theorem Em (A:Option Addr) (c:Nat) (xs:List Int) (w:World) (Y:xs.length≤c) (X:xs.length<2305843009213693952) (F:Bytes xs) (I:Lies w A xs) (G:Tabs w):
  Calls prog 153 #[.slice A xs.length c] w fun e w'=>e= .returned (.agg (c_ .u8 (pq xs)).toArray)∧Below w.heap.size w w':=by
 have HT:=dM G
 have HL:=dM I
 have HX:=dM F
 have E:=dM (show(pq xs).length=32 by rw[ww])
 have L:=fun(W:World) (q:Below w.heap.size w W)=>C4 A c xs W Y X F (I.below q) (G.below q) 46
 obtain⟨D,N⟩:=yaa (pq xs)
 rw[←N]at L E
 have HD:=dM (fun _:Unit=>N)
 clear G I F N
 go_enter func153,ntmps153
 go_wp2_with(first
  |(refine nG rfl (some 2) rfl _ rfl _ z24 ?_;intro V w2 ab Q B;have q:=(dU _ w).grown B (dQ _) (by simp);clear B;try go_frame)
  |(go_at_call 120;refine(L _ q).mono ?_;rintro e w5 ⟨rfl,M⟩;have R:=q.trans (M.mono q.size);have aa:=Q.below M Q.lt;clear M L)
  |(refine nn rfl none rfl _ (.tmp 2) (.tmp 5) rfl V 0 (c_ .u8 D) rfl rfl _ _ aa (by simp[E.out]) (by rw[rP,b_,E.out]) (oW _ _) ?_;intro w6 U B;rw[nr _ _ (by simp[E.out])]at U;have Z:=R.grown B R.size (by intro k O;injection O with O;omega);clear B;try go_frame))
 exact dW (v:= .agg (c_ .u8 D).toArray) (wv results153 _ _ V _ _ _ rfl U gG rfl (by rw[rP,b_,E.out])) rfl ⟨by rw[HD.out ()],Z⟩
def oT (key:List Int):List Int:=if 64<key.length then splice (List.replicate 64 0) 0 (pq key)else splice (List.replicate 64 0) 0 key
theorem MH (q:List Int):(oT q).length=64:=by
 unfold oT
 split
 ·rw[j2 _ _ _ (by rw[ww,eQ];omega),eQ]
 ·rw[j2 _ _ _ (by rw[eQ];omega),eQ]
theorem EU {q:List Int} (h:Bytes q):Bytes (oT q):=by
 unfold oT
 split
 ·exact(Bytes.rep 64).splice (BU q) 0
 ·exact(Bytes.rep 64).splice h 0
def n7 (K:List Int) (c:Int):Nat→List Int
 |0=>K
 |j+1=>(n7 K c j).set j (bits .xor .u8 ((n7 K c j).getD j 0) c)
@[simp] theorem nJ (K:List Int) (c:Int): ∀j,(n7 K c j).length=K.length
 |0=>rfl
 |j+1=>by simp[n7,nJ K c j]
theorem zr (q:BinOp) (x y:Int):0≤bits q .u8 x y∧bits q .u8 x y≤255:=by
 unfold bits;simp only[iz];omega
theorem H5 {K:List Int} (h:Bytes K) (c:Int): ∀j,Bytes (n7 K c j)
 |0=>h
 |j+1=>fun i=>qf _ _ _ (zr _ _ _) (H5 h c j) i
def nA (key b:List Int):List Int:=pq (n7 (oT key) 92 64++pq (n7 (oT key) 54 64++b))
theorem MW (k:IntKind) (l m:List Int) (n:Nat):splice (c_ k l) n (c_ k m)=c_ k (splice l n m):=by simp[splice,c_]
theorem Lies.all {w:World} {A:Option Addr} {xs:List Int} (h:Lies w A xs):0<(c_ .u8 xs).length→ ∃q,A=some q∧ ∀j v,(c_ .u8 xs)[j]? =some v→w.cell? (q.add j)=some v:=fun D=>by
 obtain⟨b,o,e,_,_,E⟩:=h (by simpa using D)
 exact⟨_,e,fun j v B=>by rw[eW];exact E j v B⟩
theorem vr (A:Option Addr) (c:Nat) (B:List Int) (w:World) (hc:B.length≤c) (hn:B.length<2305843009213693952) (hx:Bytes B) (hl:Lies w A B) (ao:Tabs w):
  Calls prog 119 #[.slice A B.length c] w fun e w'=>e= .returned (.agg (c_ .u8 (oT B)).toArray)∧Below w.heap.size w w':=by
 have aK:=fun(g:Nat)=>FF (P:=prog) 179 5 64 fa s5 g 0 (by omega)
 have aJ:=fun(g:Nat)=>FF (P:=prog) 82 5 32 gG s5 g 0 (by omega)
 have aa:=fun(W:World) (F:Below w.heap.size w W)=>Em A c B W hc hn hx (hl.below F) (ao.below F)
 have HL:=dM hl
 obtain⟨D,hD⟩:=yaa (pq B)
 have R:=dM (show D.length=32 by rw[hD,ww])
 rw[←hD]at aa
 obtain⟨n,ag⟩:=yaa B.length
 have aI:Hid (∀_:Unit,64<n→oT B=splice (List.replicate 64 0) 0 D):=dM (fun _ h=>by rw[oT,dP (by omega),hD])
 have aH:Hid (∀_:Unit,¬64<n→oT B=splice (List.replicate 64 0) 0 B):=dM (fun _ h=>by rw[oT,dN (by omega)])
 have aL:n<2305843009213693952:=by omega
 rw[←ag]at aa⊢
 have HN:=dM ag
 clear ao hl hx hD ag hn hc
 by_cases ay:64<n
 ·go_enter func119,ntmps119
  go_wp2_with(first
   |(refine nG rfl (some 2) rfl _ rfl _ FH ?_;intro O w2 az L q;have F:=(dU _ w).grown q (dQ _) (by simp);clear q;try go_frame)
   |(refine nG rfl (some 3) rfl _ rfl _ FH ?_;intro g3 w3 U ad q;have aF:O<g3:=dX L.lt U;have aE:w.heap.size≤g3:=dV F.size U;have N:=F.grown q F.size (by simp);have ae:=L.grownN q;clear q F L;try go_frame)
   |(go_at_call 153;refine(aa _ N).mono ?_;rintro e w4 ⟨rfl,ab⟩;have af:=N.trans (ab.mono N.size);have aD:=ae.below ab ae.lt;have av:=ad.below ab ad.lt;clear ab aa)
   |(refine nG rfl (some 4) rfl _ rfl _ z24 ?_;intro Y w5 ar aA q;have aN:g3<Y:=dX av.lt ar;have aM:w.heap.size≤Y:=dV af.size ar;have ax:=af.grown q af.size (by simp);have aC:=aD.grownN q;have aB:=av.grownN q;clear q af;try go_frame)
   |(refine nn rfl none rfl _ (.tmp 4) (.tmp 9) rfl Y 0 (c_ .u8 D) rfl rfl _ _ aA (by simp[R.out]) (by rw[rP,b_,R.out]) (oW _ _) ?_;intro Z ai q;rw[nr _ _ (by simp[R.out])]at ai;have am:=ax.grown q ax.size (by intro k E;injection E with E;omega);have aw:=aC.grown q (by intro h;injection h with h;omega);have au:=aB.grown q (by intro h;injection h with h;omega);clear q;try go_frame))
  have ap: ∀j v,(c_ .u8 D)[j]? =some v→Z.drew.cell? ((⟨Y,0,none⟩:Addr).add j)=some v:=fun j v hv=>by
   rw[eW,eL]
   exact(ai.cell j).trans hv
  go_region_law(refine Kh (w:=Z.drew) rfl (.tmp 10) (.tmp 11) _ _ rfl 5 ee s5 (some ⟨g3,0,none⟩) (some ⟨Y,0,none⟩) 64 64 32 32 (by simp[Act.eval,Act.put]) (by simp[Act.eval,Act.put]) g3 0 _ _ au.drew (c_ .u8 D) 32 (by rw[b_,R.out]) rfl (fun _=>⟨rfl,_,rfl,ap⟩) (by rw[b_,b_,R.out,eQ];omega) (oW _ _) ?_;intro w7 Q q)
  rw[MW]at Q
  have ah:Z.grownBy w7 (some g3):=(nx (ov Z _)).trans q
  have X:=am.grown ah am.size (by intro k E;injection E with E;omega)
  have aj:=aw.grown ah (by intro h;injection h with h;omega)
  obtain⟨M,I⟩:=yaa (splice (List.replicate 64 (0:Int)) 0 D)
  have G:=dM (show M.length=64 by rw[I,j2 _ _ _ (by rw[R.out,eQ];omega),eQ])
  rw[←I]at Q
  have HM:=dM (fun _:Unit=>I)
  clear I ap q ah am aw au ai
  go_wp2_with(first
   |(refine pO rfl (some 13) rfl _ (.tmp 3) rfl _ 0 rfl _ _ Q (c_ .u8 M) (by simp) _ fa rfl (by rw[vY,b_,G.out]) ?_;try go_frame)
   |(refine nn rfl none rfl _ (.tmp 2) (.tmp 13) rfl O 0 (c_ .u8 M) rfl rfl _ _ aj (by simp[G.out]) (by rw[vY,b_,G.out]) (oW _ _) ?_;intro w8 V q;rw[nr _ _ (by simp[G.out])]at V;have ak:=X.grown q X.size (by intro k E;injection E with E;omega);clear q;try go_frame))
  exact dW (v:= .agg (c_ .u8 M).toArray) (wv results119 _ _ O _ _ _ rfl V fa rfl (by rw[vY,b_,G.out])) rfl ⟨by rw[HM.out (),aI.out () ay],ak⟩
 ·have G:=dM (show(splice (List.replicate 64 (0:Int)) 0 B).length=64 by rw[j2 _ _ _ (by rw[←HN.out,eQ];omega),eQ])
  obtain⟨M,I⟩:=yaa (splice (List.replicate 64 (0:Int)) 0 B)
  rw[←I]at G
  have HM:=dM (fun _:Unit=>I)
  clear I
  have aq:n=Nat.min n 64:=(fK (by omega)).symm
  have aG:=dM aq
  clear aq
  go_enter func119,ntmps119
  go_wp2_with(first
   |(refine nG rfl (some 2) rfl _ rfl _ FH ?_;intro O w2 az L q;have F:=(dU _ w).grown q (dQ _) (by simp);clear q;try go_frame)
   |(refine nG rfl (some 3) rfl _ rfl _ FH ?_;intro g3 w3 U ad q;have aF:O<g3:=dX L.lt U;have aE:w.heap.size≤g3:=dV F.size U;have N:=F.grown q F.size (by simp);have ae:=L.grownN q;clear q F L;try go_frame)
   |(refine Ob rfl (some 16) rfl (.tmp 14) (.tmp 15) _ _ rfl 5 ee s5 (some ⟨g3,0,none⟩) A 64 64 n c rfl rfl g3 0 _ _ ad (c_ .u8 B) n (by rw[b_,←HN.out]) aG.out (fun hp=>⟨rfl,(HL.out.below N).all hp⟩) (by rw[b_,b_,←HN.out,eQ];omega) (oW _ _) ?_;intro w7 Q q;rw[MW,←HM.out ()]at Q;have X:=N.grown q N.size (by intro k E;injection E with E;omega);have aj:=ae.grown q (by intro h;injection h with h;omega);clear q;try go_frame)
   |(refine pO rfl (some 17) rfl _ (.tmp 3) rfl _ 0 rfl _ _ Q (c_ .u8 M) (by simp) _ fa rfl (by rw[vY,b_,G.out]) ?_;try go_frame)
   |(refine nn rfl none rfl _ (.tmp 2) (.tmp 17) rfl O 0 (c_ .u8 M) rfl rfl _ _ aj (by simp[G.out]) (by rw[vY,b_,G.out]) (oW _ _) ?_;intro w8 V q;rw[nr _ _ (by simp[G.out])]at V;have ak:=X.grown q X.size (by intro k E;injection E with E;omega);clear q;try go_frame))
  exact dW (v:= .agg (c_ .u8 M).toArray) (wv results119 _ _ O _ _ _ rfl V fa rfl (by rw[vY,b_,G.out])) rfl ⟨by rw[HM.out (),aH.out () ay],ak⟩
end Go.Proofs.YtceddodfddlncaaGreatDoor
