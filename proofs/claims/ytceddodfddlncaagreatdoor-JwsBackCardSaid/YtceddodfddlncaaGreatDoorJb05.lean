
import Derived.WalkLawsBesides
import Derived.WalkSpells
import Derived.Handy
import Derived.RegionTactic
import Derived.StillTailTactics
import Derived.LoopTactic
import Derived.Deep.LoopGhost
import Derived.Maps.RangeWalk
import Derived.Test.YtceddodfddlncaaGreatDoorJb04
set_option maxRecDepth 100000
set_option maxHeartbeats 16000000
set_option linter.all false
namespace Go.Proofs.YtceddodfddlncaaGreatDoor
open Go Go.RowKit
abbrev Marks (w:World):Prop:=Blk w 6 278 (ints .i64 [0,0,192,224,240])
theorem Marks.below {w w':World} (h:Marks w) (hb:Below w.heap.size w w'):Marks w':=Blk.below h hb h.lt
theorem zcu {w:World} (h:Marks w) (k:Nat) (hk:k<5):w.cell? ⟨6,k,none⟩=some (.int .i64 (zfl k)):=by
 rw[Blk.cell h]
 match k,hk with
 |0,_=>rfl
 |1,_=>rfl
 |2,_=>rfl
 |3,_=>rfl
 |4,_=>rfl
theorem size_facts (n:Int): ∃k:Nat,k=(putL n).length∧k≤4∧(n<0→k=0)∧(1114112≤n→k=0)∧(55296≤n→n<57344→k=0)∧(0≤n→n<128→k=1)∧(128≤n→n<2048→k=2)∧(2048≤n→n<55296→k=3)∧(57344≤n→n<65536→k=3)∧(65536≤n→n<1114112→k=4):=by
 refine⟨_,rfl,zdc n,?_⟩
 rcases zcs n with⟨h,h'⟩|⟨h1,h2,h⟩|⟨h1,h2,h⟩|⟨h1,h2,h3,h⟩|⟨h1,h2,h⟩<;>rw[h]<;>simp only[List.length_cons,List.length_nil,Nat.zero_add,Nat.reduceAdd]<;>refine⟨?_,?_,?_,?_,?_,?_,?_,?_⟩<;>intros<;>first|trivial|omega
theorem zlK (n:Int) (w:World):
  Calls Tryz.prog 213 #[.int .i64 n] w fun e w'=>e= .returned (.int .i64 (((putL n).length:Nat):Int))∧w=w':=by
 obtain⟨k,hk,hf⟩:=size_facts n
 rw[←hk]
 have HF:=Lib.hid hf
 clear hk hf
 go_enter Tryz.func213,Tryz.ntmps213
 go_wp2
 all_goals go_ret
 all_goals exact⟨zcq (by have:=HF.out;omega),rfl⟩
theorem or_128 (n:Int) (h:0≤n∧n<64):bits .or .i64 128 n=128+n:=zgK 1 n 7 h.1 (by omega) (by decide) (by omega)
theorem zio (n:Int) (w:World) (h0:0≤n) (h1:n≤9223372036854775807):
  Calls Tryz.prog 228 #[.int .i64 n] w fun e w'=>e= .returned (.int .u8 (128+n%64))∧w=w':=by
 have e1:=zef n 6 (by decide) h0 (by omega)
 replace e1:bits .and .i64 n 63=n%64:=e1
 have e2:=or_128 (n%64) (by omega)
 go_enter Tryz.func228,Tryz.ntmps228
 go_wp2
 go_ret
 exact⟨zcq (by omega),rfl⟩
theorem wanted_any (c:Int) (w:World) (hm:Marks w) (h0:0≤c) (h1:c≤255):
  Calls Tryz.prog 227 #[.int .u8 c] w fun e w'=>e= .returned (.int .i64 (((zbs c-1:Nat):Int)))∧w=w':=by
 have m4:w.cell? ⟨6,4,none⟩=some (.int .i64 240):=zcu hm 4 (by decide)
 have m3:w.cell? ⟨6,3,none⟩=some (.int .i64 224):=zcu hm 3 (by decide)
 have m2:w.cell? ⟨6,2,none⟩=some (.int .i64 192):=zcu hm 2 (by decide)
 have hf:(240≤c→zbs c=4)∧(224≤c→c<240→zbs c=3)∧(192≤c→c<224→zbs c=2)∧(c<192→zbs c=1):=by
  unfold zbs
  refine⟨fun h=>if_pos h,fun h h'=> ?_,fun h h'=> ?_,fun h=> ?_⟩
  ·rw[if_neg (by omega),if_pos h]
  ·rw[if_neg (by omega),if_neg (by omega),if_pos h]
  ·rw[if_neg (by omega),if_neg (by omega),if_neg (by omega)]
 obtain⟨k,hk⟩: ∃k,k=zbs c:=⟨_,rfl⟩
 rw[←hk]at hf⊢
 have HF:=Lib.hid hf
 clear hk hf hm
 go_enter Tryz.func227,Tryz.ntmps227
 go_wp2
 all_goals go_ret
 all_goals exact⟨zcq (by have:=HF.out;omega),rfl⟩
def spL (n:Int):List Int:=putL n++List.replicate (4-(putL n).length) 0
theorem spL_one {n:Int} (h:0≤n) (h1:n<128):spL n=[n,0,0,0]:=by unfold spL;rw[zea h h1];rfl
theorem spL_two {n:Int} (h:128≤n) (h1:n<2048):spL n=[192+n/64,128+n%64,0,0]:=by unfold spL;rw[zmz h h1];rfl
theorem spL_three {n:Int} (h:2048≤n) (h1:n<65536) (h2:n<55296∨57343<n):spL n=[224+n/4096,128+n/64%64,128+n%64,0]:=by unfold spL;rw[zhu h h1 h2];rfl
theorem spL_four {n:Int} (h:65536≤n) (h1:n≤1114111):spL n=[240+n/262144,128+n/4096%64,128+n/64%64,128+n%64]:=by unfold spL;rw[zjs h h1];rfl
theorem spL_none {n:Int} (h:n<0∨1114111<n∨(55296≤n∧n≤57343)):spL n=[0,0,0,0]:=by unfold spL;rw[zhY h];rfl
theorem or_0 (x:Int) (h:0≤x∧x<256):bits .or .i64 0 x=x:=by
 have:=zgK 0 x 8 h.1 (by omega) (by decide) (by omega)
 simpa using this
theorem or_192 (x:Int) (h:0≤x∧x<64):bits .or .i64 192 x=192+x:=zgK 3 x 6 h.1 (by omega) (by decide) (by omega)
theorem or_224 (x:Int) (h:0≤x∧x<32):bits .or .i64 224 x=224+x:=zgK 7 x 5 h.1 (by omega) (by decide) (by omega)
theorem or_240 (x:Int) (h:0≤x∧x<16):bits .or .i64 240 x=240+x:=zgK 15 x 4 h.1 (by omega) (by decide) (by omega)
abbrev zij (a b c d:Int):Array Value:= #[.int .u8 a,.int .u8 b,.int .u8 c,.int .u8 d]
theorem zel (n:Int) (k:Nat) (h:(putL n).length=k) (W:World):Calls Tryz.prog 213 #[.int .i64 n] W fun e w'=>e= .returned (.int .i64 (k:Int))∧W=w':=by
 have:=zlK n W
 rw[h]at this
 exact this
theorem spell_none (n:Int) (w:World) (h:putL n=[]):
  Calls Tryz.prog 225 #[.int .i64 n] w fun e w'=>e= .returned (.agg (zij 0 0 0 0))∧Below w.heap.size w w':=by
 have HS:=Lib.hid (zel n 0 (by rw[h];rfl))
 clear h
 go_enter Tryz.func225,Tryz.ntmps225
 go_wp2_with(go_at_call 213;refine(HS.out _).mono ?_;rintro e w' ⟨rfl,rfl⟩)
 exact bodyPost_ret (v:= .agg (zij 0 0 0 0)) (by simp[results,Tryz.results225,go_sem]) rfl ⟨rfl,((Below.refl _ _).alloc (Nat.le_refl _) _).alloc (by simp) _⟩
theorem ziu {a b c d a' b' c' d':Int} (h1:a=a') (h2:b=b') (h3:c=c') (h4:d=d'):Ending.returned (.agg (zij a b c d))= .returned (.agg (zij a' b' c' d')):=by rw[h1,h2,h3,h4]
theorem spell_one (n:Int) (w:World) (hm:Marks w) (h0:0≤n) (h1:n<128):
  Calls Tryz.prog 225 #[.int .i64 n] w fun e w'=>e= .returned (.agg (zij n 0 0 0))∧Below w.heap.size w w':=by
 have HS:=Lib.hid (zel n 1 (by rw[zea h0 h1];rfl))
 have m1:w.cell? ⟨6,1,none⟩=some (.int .i64 0):=zcu hm 1 (by decide)
 have e1:=or_0 n (by omega)
 have hlt:=hm.lt
 clear hm
 go_enter Tryz.func225,Tryz.ntmps225
 go_wp2_with(first|(go_at_call 213;refine(HS.out _).mono ?_;rintro e w' ⟨rfl,rfl⟩)|(go_at_call 228;refine(zio _ _ (by omega) (by omega)).mono ?_;rintro e w' ⟨rfl,rfl⟩))
 refine bodyPost_ret (v:= .agg (zij n 0 0 0)) (by simp[results,Tryz.results225,go_sem]) rfl ⟨?_,((Below.refl _ _).alloc (Nat.le_refl _) _).alloc (by simp) _⟩
 exact ziu (by omega) (by omega) (by omega) (by omega)
theorem spell_two (n:Int) (w:World) (hm:Marks w) (h0:128≤n) (h1:n<2048):
  Calls Tryz.prog 225 #[.int .i64 n] w fun e w'=>e= .returned (.agg (zij (192+n/64) (128+n%64) 0 0))∧Below w.heap.size w w':=by
 have HS:=Lib.hid (zel n 2 (by rw[zmz h0 h1];rfl))
 have m1:w.cell? ⟨6,2,none⟩=some (.int .i64 192):=zcu hm 2 (by decide)
 have e1:=or_192 (n/64) (by omega)
 have hlt:=hm.lt
 clear hm
 go_enter Tryz.func225,Tryz.ntmps225
 go_wp2_with(first|(go_at_call 213;refine(HS.out _).mono ?_;rintro e w' ⟨rfl,rfl⟩)|(go_at_call 228;refine(zio _ _ (by omega) (by omega)).mono ?_;rintro e w' ⟨rfl,rfl⟩))
 refine bodyPost_ret (v:= .agg (zij (192+n/64) (128+n%64) 0 0)) (by simp[results,Tryz.results225,go_sem]) rfl ⟨?_,((Below.refl _ _).alloc (Nat.le_refl _) _).alloc (by simp) _⟩
 exact ziu (by omega) (by omega) (by omega) (by omega)
theorem spell_three (n:Int) (w:World) (hm:Marks w) (h0:2048≤n) (h1:n<65536) (h2:n<55296∨57343<n):
  Calls Tryz.prog 225 #[.int .i64 n] w fun e w'=>e= .returned (.agg (zij (224+n/4096) (128+n/64%64) (128+n%64) 0))∧Below w.heap.size w w':=by
 have H2:=Lib.hid h2
 have HS:=Lib.hid (zel n 3 (by rw[zhu h0 h1 h2];rfl))
 have m1:w.cell? ⟨6,3,none⟩=some (.int .i64 224):=zcu hm 3 (by decide)
 have e1:=or_224 (n/64/64) (by omega)
 clear h2
 have hlt:=hm.lt
 clear hm
 go_enter Tryz.func225,Tryz.ntmps225
 go_wp2_with(first|(go_at_call 213;refine(HS.out _).mono ?_;rintro e w' ⟨rfl,rfl⟩)|(go_at_call 228;refine(zio _ _ (by omega) (by omega)).mono ?_;rintro e w' ⟨rfl,rfl⟩))
 refine bodyPost_ret (v:= .agg (zij (224+n/64/64) (128+n/64%64) (128+n%64) 0)) (by simp[results,Tryz.results225,go_sem]) rfl ⟨?_,((Below.refl _ _).alloc (Nat.le_refl _) _).alloc (by simp) _⟩
 exact ziu (by omega) (by omega) (by omega) (by omega)
theorem spell_four (n:Int) (w:World) (hm:Marks w) (h0:65536≤n) (h1:n≤1114111):
  Calls Tryz.prog 225 #[.int .i64 n] w fun e w'=>e= .returned (.agg (zij (240+n/262144) (128+n/4096%64) (128+n/64%64) (128+n%64)))∧Below w.heap.size w w':=by
 have HS:=Lib.hid (zel n 4 (by rw[zjs h0 h1];rfl))
 have m1:w.cell? ⟨6,4,none⟩=some (.int .i64 240):=zcu hm 4 (by decide)
 have e1:=or_240 (n/64/64/64) (by omega)
 have hlt:=hm.lt
 clear hm
 go_enter Tryz.func225,Tryz.ntmps225
 go_wp2_with(first|(go_at_call 213;refine(HS.out _).mono ?_;rintro e w' ⟨rfl,rfl⟩)|(go_at_call 228;refine(zio _ _ (by omega) (by omega)).mono ?_;rintro e w' ⟨rfl,rfl⟩))
 refine bodyPost_ret (v:= .agg (zij (240+n/64/64/64) (128+n/64/64%64) (128+n/64%64) (128+n%64))) (by simp[results,Tryz.results225,go_sem]) rfl ⟨?_,((Below.refl _ _).alloc (Nat.le_refl _) _).alloc (by simp) _⟩
 exact ziu (by omega) (by omega) (by omega) (by omega)
theorem spell_any (n:Int) (w:World) (hm:Marks w):
  Calls Tryz.prog 225 #[.int .i64 n] w fun e w'=>e= .returned (.agg (ints .u8 (spL n)).toArray)∧Below w.heap.size w w':=by
 rcases zcs n with⟨h,h'⟩|⟨h1,h2,h⟩|⟨h1,h2,h⟩|⟨h1,h2,h3,h⟩|⟨h1,h2,h⟩
 ·rw[spL_none h'];exact spell_none n w h
 ·rw[spL_one h1 h2];exact spell_one n w hm h1 h2
 ·rw[spL_two h1 h2];exact spell_two n w hm h1 h2
 ·rw[spL_three h1 h2 h3];exact spell_three n w hm h1 h2 h3
 ·rw[spL_four h1 h2];exact spell_four n w hm h1 h2
theorem length_spL (n:Int):(spL n).length=4:=by
 have:=zdc n
 unfold spL
 rw[List.length_append,List.length_replicate];omega
theorem spL_take (n:Int):(spL n).take (putL n).length=putL n:=by simp[spL]
theorem put_any (n:Int) (w:World) (hm:Marks w):
  Calls Tryz.prog 218 #[.int .i64 n] w fun e w'=>e= .returned (.string (toS (putL n)))∧Below w.heap.size w w':=by
 have hlen:=zdc n
 have HSZ:=Lib.hid (fun W:World=>zlK n W)
 have HSP:=Lib.hid (spell_any n w hm)
 obtain⟨a,b,c,d,h4⟩: ∃a b c d,spL n=[a,b,c,d]:=by
  have:=length_spL n
  match h:spL n,this with
  |[a,b,c,d],_=>exact⟨a,b,c,d,rfl⟩
 have hcv: ∀W:World,(convert 46 9 (.slice (some ⟨W.heap.size,0,none⟩) (putL n).length 4)).run Tryz.prog (W.alloc (.cells #[.int .u8 a,.int .u8 b,.int .u8 c,.int .u8 d] 122))= .ok (.string (toS (putL n))) (W.alloc (.cells #[.int .u8 a,.int .u8 b,.int .u8 c,.int .u8 d] 122)):=fun W=>
  zdo _ (putL n) _ 4 _ rfl (by
   have:=(Lies.whole (w:=W.alloc (.cells #[.int .u8 a,.int .u8 b,.int .u8 c,.int .u8 d] 122)) (b:=W.heap.size) (t:=122) (xs:=[a,b,c,d]) (heap_alloc_new W _)).take (putL n).length
   rw[←h4,spL_take]at this
   exact this)
 have hsl:=fun(g:Nat)=>zeg (P:=Tryz.prog) 122 5 4 Tryz.underlying122 (by kernel_rfl) g 0 (putL n).length (by decide) hlen .i64
 obtain⟨k,hk⟩: ∃k,k=(putL n).length:=⟨_,rfl⟩
 rw[←hk]at hcv hsl HSZ hlen
 obtain⟨S,hS⟩: ∃S,S=toS (putL n):=⟨_,rfl⟩
 rw[←hS]at hcv⊢
 rw[h4]at HSP
 clear hk hS hm h4
 go_enter Tryz.func218,Tryz.ntmps218
 go_wp2_with(first|(go_at_call 213;refine(HSZ.out _).mono ?_;rintro e w' ⟨rfl,rfl⟩)|(go_at_call 225;refine HSP.out.mono ?_;rintro e w1 ⟨rfl,hb⟩;have HB:=Lib.hid hb;clear hb;simp only[ints,List.map_cons,List.map_nil]))
 go_ret
 exact⟨rfl,HB.out.alloc HB.out.size _⟩
theorem accL_bd (c0:Int) (l:List Int) (h:0≤c0∧c0≤255): ∀i,0≤accL c0 l i∧accL c0 l i<256*64^i
 |0=>by show 0≤c0∧c0<256*64^0;omega
 |i+1=>by
  have:=accL_bd c0 l h i
  rw[accL,Int.pow_succ]
  omega
theorem marksub_bd (c:Int) (h:0≤c∧c≤255):0≤c-zfl (zbs c)∧c-zfl (zbs c)≤255:=by
 unfold zbs
 split
 ·show 0≤c-240∧_≤_;unfold zfl;simp;omega
 ·split
  ·show 0≤c-224∧_≤_;unfold zfl;simp;omega
  ·split
   ·show 0≤c-192∧_≤_;unfold zfl;simp;omega
   ·show 0≤c-0∧_≤_;unfold zfl;simp;omega
theorem begin_empty (w:World):
  Calls Tryz.prog 222 #[.string ⟨#[]⟩] w fun e w'=>e= .returned (.tuple #[.int .i64 (-1),.int .i64 0])∧Below w.heap.size w w':=by
 go_enter Tryz.func222,Tryz.ntmps222
 go_wp2
 go_ret2
 exact⟨rfl,Below.refl _ _⟩
theorem ziw {s:ByteArray} (h:0<s.size):s.toList.isEmpty=false:=by
 rw[ByteArray.toList_eq]
 cases hd:s.data.toList with
 |nil=>
  have:s.size=s.data.toList.length:=by simp
  rw[hd]at this
  rw[this]at h
  exact absurd h (by decide)
 |cons=>rfl
structure BeginOf (s:ByteArray) (k:Nat):Prop where
 pos:0<s.size
 want:zbs ((strL s).getD 0 0)=k+1
 le:k≤3
theorem beginOf {s:ByteArray} (h:0<s.size): ∃k,BeginOf s k:=by
 have hw:=zim ((strL s).getD 0 0)
 exact⟨zbs ((strL s).getD 0 0)-1,h,by omega,by omega⟩
theorem BeginOf.call {s:ByteArray} {k:Nat} (h:BeginOf s k) (h0:0<s.size) (W:World) (hM:Marks W):
  Calls Tryz.prog 227 #[.int .u8 ((s[0]'h0).toNat:Int)] W fun e w'=>e= .returned (.int .i64 (k:Int))∧W=w':=by
 have hb:=(zaz s) 0
 have:=wanted_any ((strL s).getD 0 0) W hM hb.1 hb.2
 rw[h.want,Nat.add_sub_cancel,zbp s 0 h.pos]at this
 exact this
theorem begin_short (s:ByteArray) (w:World) (hm:Marks w) (h0:0<s.size) (hs:s.size<zbs ((strL s).getD 0 0)):
  Calls Tryz.prog 222 #[.string s] w fun e w'=>e= .returned (.tuple #[.int .i64 (-1),.int .i64 1])∧Below w.heap.size w w':=by
 obtain⟨k,hk⟩:=beginOf h0
 rw[hk.want]at hs
 have HW:=Lib.hid (fun W (hM:Marks W)=>hk.call h0 W hM)
 have hk4:=hk.le
 have hE:=ziw h0
 have HM:=Lib.hid hm
 clear hm hk
 go_enter Tryz.func222,Tryz.ntmps222
 go_wp2_with(go_at_call 227;refine(HW.out _ HM.out).mono ?_;rintro e w' ⟨rfl,rfl⟩)
 go_ret2
 exact⟨rfl,Below.refl _ _⟩
theorem pow64 (j:Nat) (h:j≤3):(64:Int)^j≤262144:=by
 match j,h with
 |0,_=>decide
 |1,_=>decide
 |2,_=>decide
 |3,_=>decide
theorem belowDN (w:World) (n:Nat):Below w.heap.size w (w.drewN n):=zaw (Below.refl _ _) n
theorem or_low (x y:Int) (h0:0≤x∧x<140737488355328) (h1:0≤y∧y<64):bits .or .i64 (x*64) y=x*64+y:=zgK x y 6 h1.1 (by omega) h0.1 (by omega)
theorem begin_long (s:ByteArray) (w:World) (hm:Marks w) (h0:0<s.size) (hsz:s.size≤9223372036854775807) (hs:zbs ((strL s).getD 0 0)≤s.size):
  Calls Tryz.prog 222 #[.string s] w fun e w'=>e= .returned (.tuple #[.int .i64 (nxL (strL s)).1,.int .i64 ((nxL (strL s)).2:Int)])∧Below w.heap.size w w':=by
 obtain⟨k,hk⟩:=beginOf h0
 have hb0:=(zaz s) 0
 have hms:=marksub_bd _ hb0
 have hacc:=accL_bd ((strL s).getD 0 0-zfl (k+1)) (strL s) (by rw[←hk.want];exact hms)
 rw[hk.want]at hs hms
 rw[zbp s 0 h0]at hms
 have HC:Hid (zdp (strL s)=accL ((strL s).getD 0 0-zfl (k+1)) (strL s) k):=Lib.hid (by unfold zdp;rw[hk.want,Nat.add_sub_cancel])
 have HG0:Hid ((strL s).getD 0 0=((s[0]'h0).toNat:Int)):=Lib.hid (zbp s 0 h0)
 have HW:=Lib.hid (fun W (hM:Marks W)=>hk.call h0 W hM)
 have hk4:=hk.le
 have hE:=ziw h0
 have HM:=Lib.hid hm
 have m1:w.cell? ⟨6,k+1,none⟩=some (.int .i64 (zfl (k+1))):=zcu hm (k+1) (by omega)
 have HWANT:=Lib.hid hk.want
 have hmk:0≤zfl (k+1)∧zfl (k+1)≤240:=by unfold zfl;split<;>(try split)<;>(try split)<;>omega
 obtain⟨m,hmm⟩: ∃m,m=zfl (k+1):=⟨_,rfl⟩
 rw[←hmm]at m1 hms hacc HC hmk
 have HA:=Lib.hid hacc
 have h1k:(1:Int)+(k:Int)=((k+1:Nat):Int):=by omega
 clear hm hk hb0 hmm hacc
 go_enter Tryz.func222,Tryz.ntmps222
 go_wp2_with(go_at_call 227;refine(HW.out _ HM.out).mono ?_;rintro e w' ⟨rfl,rfl⟩)
 go_quiet (fail)
 go_wp2
 go_loopw[2,4] (fun x i wr=>Below w.heap.size w wr∧ ∃j:Nat,j≤k∧i= .int .i64 ((j+1:Nat):Int)∧x= .int .i64 (accL ((strL s).getD 0 0-m) (strL s) j)) (fun _ i _=>k+1-(intOf i).toNat)
 case atStart=>exact⟨belowDN w _,0,by omega,rfl,by rw[HG0.out];rfl⟩
 case round=>
  obtain⟨hbel,j,hj,rfl,rfl⟩:=hrel
  have HB:=Lib.hid hbel
  clear hbel
  by_cases hlt:j<k
  ·have ha:=HA.out j
   have h64:=pow64 j (by omega)
   have ha2:accL ((strL s).getD 0 0-m) (strL s) j<140737488355328:=by
    omega
   obtain⟨ha1,_⟩:=ha
   have HN:Hid (accL ((strL s).getD 0 0-m) (strL s) (j+1)=accL ((strL s).getD 0 0-m) (strL s) j*64+((s[j+1]'(by omega)).toNat:Int)%64):=Lib.hid (by rw[accL,zbp s (j+1) (by omega)])
   obtain⟨x,hx⟩: ∃x,x=accL ((strL s).getD 0 0-m) (strL s) j:=⟨_,rfl⟩
   rw[←hx]at ha1 ha2 HN⊢
   have hu:=(s[j+1]'(by omega)).toNat_lt
   have e1:=zef ((s[j+1]'(by omega)).toNat:Int) 6 (by decide) (by omega) (by omega)
   replace e1:bits .and .i64 ((s[j+1]'(by omega)).toNat:Int) 63=((s[j+1]'(by omega)).toNat:Int)%64:=e1
   have e2:=or_low x (((s[j+1]'(by omega)).toNat:Int)%64) ⟨ha1,ha2⟩ (by omega)
   clear hx h64
   go_wp2
   go_roundw
   case rel=>exact⟨HB.out,j+1,by omega,by go_num,by rw[HN.out]⟩
   case measure=>simp[intOf];omega
  ·obtain rfl:j=k:=by omega
   have HML:=Lib.hid (HM.out.below HB.out)
   have HPUT:=Lib.hid (fun(W:World) (hM:Marks W)=>put_any (zdp (strL s)) W hM)
   rw[HC.out]at HPUT
   have hnx:Hid (nxL (strL s)=if putL (zdp (strL s))=(strL s).take (j+1)then(zdp (strL s),j+1)else(-1,1)):=Lib.hid (by
    have hl:=zaQ s
    unfold nxL
    rw[HWANT.out,if_neg (by omega),if_neg (by omega)])
   have hcand: -1≤zdp (strL s):=by
    rw[HC.out]
    have:=(HA.out j).1
    omega
   by_cases hp:putL (zdp (strL s))=(strL s).take (j+1)
   ·have HR:Hid (nxL (strL s)=(zdp (strL s),j+1)):=Lib.hid (by rw[hnx.out,if_pos hp])
    have heq:((toS (putL (zdp (strL s)))).toList==(s.extract 0 (j+1)).toList)=true:=by
     rw[zcK,decide_eq_true_eq,hp]
     exact zdb (by rw[zcb ((zaz s).take _),zax,List.drop_zero])
    rw[HC.out]at heq HR
    obtain⟨L,hL⟩: ∃L,L=accL ((strL s).getD 0 0-m) (strL s) j:=⟨_,rfl⟩
    rw[←hL]at heq HR HPUT⊢
    obtain⟨T,hT⟩: ∃T,T=toS (putL L):=⟨_,rfl⟩
    rw[←hT]at heq HPUT
    clear hp hnx hL hcand hT
    go_wp2_with fail
    have b0:(0:Int)≤(j:Int)+1:=by omega
    have b1:(j:Int)+1≤(s.size:Int):=by omega
    have b2:((j:Int)+1).toNat=j+1:=by omega
    go_region_held3(fun W=>Below wr.heap.size wr W) (first|exact(Below.refl _ _).drew|exact Below.trans (by assumption) (hb.mono (Below.size (by assumption)))|go_keep)
     (first|(go_at_call 218;refine(HPUT.out _ (HML.out.below ‹_›)).mono ?_;rintro e w' ⟨rfl,hb⟩))
    have HW':=Lib.hid (‹Below wr.heap.size wr _›)
    clear b0 b1 b2 hb
    go_wp2_with fail
    go_ret2
    rw[HR.out]
    exact⟨rfl,HB.out.trans (HW'.out.mono HB.out.size)⟩
   ·have HR:Hid (nxL (strL s)=(-1,1)):=Lib.hid (by rw[hnx.out,if_neg hp])
    have heq:((toS (putL (zdp (strL s)))).toList==(s.extract 0 (j+1)).toList)=false:=by
     rw[zcK,decide_eq_false_iff_not]
     intro e
     have e2:=(eq_toS (zgX _)).1 e.symm
     rw[zax,List.drop_zero]at e2
     exact hp e2.symm
    rw[HC.out]at heq
    obtain⟨L,hL⟩: ∃L,L=accL ((strL s).getD 0 0-m) (strL s) j:=⟨_,rfl⟩
    rw[←hL]at heq HPUT⊢
    obtain⟨T,hT⟩: ∃T,T=toS (putL L):=⟨_,rfl⟩
    rw[←hT]at heq HPUT
    clear hp hnx hL hcand hT
    go_wp2_with fail
    have b0:(0:Int)≤(j:Int)+1:=by omega
    have b1:(j:Int)+1≤(s.size:Int):=by omega
    have b2:((j:Int)+1).toNat=j+1:=by omega
    go_region_held3(fun W=>Below wr.heap.size wr W) (first|exact(Below.refl _ _).drew|exact Below.trans (by assumption) (hb.mono (Below.size (by assumption)))|go_keep)
     (first|(go_at_call 218;refine(HPUT.out _ (HML.out.below ‹_›)).mono ?_;rintro e w' ⟨rfl,hb⟩))
    have HW':=Lib.hid (‹Below wr.heap.size wr _›)
    clear b0 b1 b2 hb
    go_wp2_with fail
    go_ret2
    rw[HR.out]
    exact⟨rfl,HB.out.trans (HW'.out.mono HB.out.size)⟩
theorem begin_any (s:ByteArray) (w:World) (hm:Marks w) (hs:s.size≤9223372036854775807):
  Calls Tryz.prog 222 #[.string s] w fun e w'=>e= .returned (.tuple #[.int .i64 (nxL (strL s)).1,.int .i64 ((nxL (strL s)).2:Int)])∧Below w.heap.size w w':=by
 have hl:=zaQ s
 rcases Nat.eq_zero_or_pos s.size with h0|h0
 ·have e:s=⟨#[]⟩:=zdb (by rw[List.eq_nil_of_length_eq_zero (hl.trans h0)];rfl)
  subst e
  exact begin_empty w
 ·rcases Nat.lt_or_ge s.size (zbs ((strL s).getD 0 0))with h1|h1
  ·have:nxL (strL s)=(-1,1):=by
    unfold nxL
    rw[if_neg (by omega),if_pos (by omega)]
   rw[this]
   exact begin_short s w hm h0 h1
  ·exact begin_long s w hm h0 hs h1
def RingAt (w:World) (A:Option Addr) (ks:List KeyM):Prop:=ks≠[]→ ∃b o,A=some ⟨b,o,none⟩∧b<w.heap.size∧ ∀i k,ks[i]? =some k→w.cell? ⟨b,o+i*2,none⟩=some (.string k.1)∧w.cell? ⟨b,o+i*2+1,none⟩=some (.string k.2)
def KeyOk (ks:List KeyM):Prop:= ∀k∈ks,k.1.size≤9223372036854775807∧k.2.size≤9223372036854775807
theorem RingAt.below {w w':World} {A:Option Addr} {ks:List KeyM} (h:RingAt w A ks) (hb:Below w.heap.size w w'):RingAt w' A ks:=fun hp=>by
 obtain⟨b,o,e,hlt,hc⟩:=h hp
 exact⟨b,o,e,Nat.lt_of_lt_of_le hlt hb.size,fun i k hi=>⟨(hb.cell (p:=⟨b,o+i*2,none⟩) hlt).trans (hc i k hi).1,(hb.cell (p:=⟨b,o+i*2+1,none⟩) hlt).trans (hc i k hi).2⟩⟩
theorem RingAt.at {w:World} {A:Option Addr} {ks:List KeyM} (h:RingAt w A ks) {i:Nat} (hi:i<ks.length): ∃b o,A=some ⟨b,o,none⟩∧b<w.heap.size∧w.cell? ⟨b,o+i*2,none⟩=some (.string ks[i].1)∧w.cell? ⟨b,o+i*2+1,none⟩=some (.string ks[i].2):=by
 obtain⟨b,o,e,hlt,hc⟩:=h (by intro h0;rw[h0]at hi;exact absurd hi (by simp))
 exact⟨b,o,e,hlt,hc i _ (List.getElem?_eq_getElem hi)⟩
theorem RingAt.take {w:World} {A:Option Addr} {ks:List KeyM} (h:RingAt w A ks) (n:Nat):RingAt w A (ks.take n):=fun hp=>by
 obtain⟨b,o,e,hlt,hc⟩:=h (fun e=>hp (by rw[e,List.take_nil]))
 refine⟨b,o,e,hlt,fun i k hi=>hc i k ?_⟩
 rw[List.getElem?_take]at hi
 split at hi
 ·exact hi
 ·cases hi
theorem RingAt.drop {w:World} {b o:Nat} {ks:List KeyM} (h:RingAt w (some ⟨b,o,none⟩) ks) (n:Nat):RingAt w (some ⟨b,o+n*2,none⟩) (ks.drop n):=fun hp=>by
 obtain⟨b',o',e,hlt,hc⟩:=h (fun e=>hp (by rw[e,List.drop_nil]))
 injection e with e
 injection e with e1 e2
 subst e1;subst e2
 refine⟨b,o+n*2,rfl,hlt,fun i k hi=> ?_⟩
 rw[List.getElem?_drop]at hi
 have:=hc (n+i) k hi
 rw[show o+(n+i)*2=o+n*2+i*2 by omega]at this
 exact this
theorem RingAt.nil (w:World) (A:Option Addr):RingAt w A []:=fun h=>absurd rfl h
theorem KeyOk.get {ks:List KeyM} (h:KeyOk ks) {i:Nat} (hi:i<ks.length):ks[i].1.size≤9223372036854775807∧ks[i].2.size≤9223372036854775807:=h _ (List.getElem_mem hi)
theorem str_fullW {a:ByteArray} (he:a≠⟨#[]⟩):(a.toList==[])=false∧ ¬a.toList=[]∧1≤a.size:=by
 have hpos:0<a.size:=Nat.pos_of_ne_zero fun h0=>he (by
  cases a with|mk d=>cases d with|mk l=>cases l with|nil=>rfl|cons x r=>simp[ByteArray.size]at h0)
 have h2: ¬a.toList=[]:=fun h=>by
  have:=ziw hpos
  rw[h]at this
  cases this
 exact⟨by rw[beq_eq_false_iff_ne];exact h2,h2,hpos⟩
theorem and31: ∀k:Fin 31,bits BinOp.and IntKind.u64 (IntKind.u64.wrap (-(((k.val+1:Nat)):Int))) 31=32-(((k.val+1:Nat)):Int):=by decide+kernel
theorem rot_any (x:Int) (k:Nat) (w:World) (hx:0≤x) (hx2:x<4294967296) (hn:1≤k) (hn2:k≤31):
  Calls Tryz.prog 223 #[.int .u32 x,.int .i64 (-(k:Int))] w fun e w'=>e= .returned (.int .u32 (rotr x k))∧w=w':=by
 have hs:bits BinOp.and IntKind.u64 (IntKind.u64.wrap (-(k:Int))) 31=32-(k:Int):=by
  have:=and31 ⟨k-1,by omega⟩
  have e:k-1+1=k:=by omega
  simp only[e]at this
  exact this
 go_enter Tryz.func223,Tryz.ntmps223
 go_wp2
 go_ret
 refine⟨?_,rfl⟩
 have e:32-(32-k)=k:=by omega
 rw[e]
 rfl
theorem zei (x:Int) (k:Nat) (w:World) (hx:0≤x) (hx2:x<4294967296) (hn:1≤k) (hn2:k≤31):
  Calls Tryz.prog 215 #[.int .u32 x,.int .i64 (k:Int)] w fun e w'=>e= .returned (.int .u32 (rotr x k))∧w=w':=by
 go_enter Tryz.func215,Tryz.ntmps215
 go_wp2_with(go_at_call 223;refine(rot_any _ _ _ (by omega) (by omega) hn hn2).mono ?_;rintro e w' ⟨rfl,rfl⟩)
 go_ret
 exact⟨rfl,rfl⟩
theorem turns_any (x:Int) (i j k:Nat) (w:World) (hx:0≤x) (hx2:x<4294967296) (hi:1≤i) (hi2:i≤31) (hj:1≤j) (hj2:j≤31) (hn:1≤k) (hn2:k≤31):
  Calls Tryz.prog 200 #[.int .u32 x,.int .i64 (i:Int),.int .i64 (j:Int),.int .i64 (k:Int)] w fun e w'=>e= .returned (.int .u32 (ziV x i j k))∧w=w':=by
 have c:=fun(n:Nat) (h1:1≤n) (h2:n≤31) (w:World)=>zei x n w hx hx2 h1 h2
 go_enter Tryz.func200,Tryz.ntmps200
 go_wp2_with(go_at_call 215;refine(c _ (by omega) (by omega) _).mono ?_;rintro e w' ⟨rfl,rfl⟩)
 go_ret
 exact⟨rfl,rfl⟩
theorem z57:(Tryz.prog.info? 252).map (·.zero)=some (some (.agg (ints .u32 (List.replicate 64 0)).toArray)):=by kernel_rfl
theorem s57:(Tryz.prog.info? 252).map (·.size)=some 64:=by kernel_rfl
theorem s35:(Tryz.prog.info? 179).map (·.size)=some 64:=by kernel_rfl
theorem s33:(Tryz.prog.info? 124).map (·.size)=some 1:=by kernel_rfl
theorem s5:(Tryz.prog.info? 5).map (·.size)=some 1:=by kernel_rfl
theorem spread_any (b:List Int) (w:World) (hb:b.length=64) (hbd: ∀i,0≤b.getD i 0∧b.getD i 0≤255):
  Calls Tryz.prog 199 #[.agg (ints .u8 b).toArray] w fun e w'=>e= .returned (.agg (ints .u32 (zbx b 48)).toArray)∧Below w.heap.size w w':=by
 have HB:=Lib.hid hb
 have HBD:=Lib.hid hbd
 clear hb hbd
 go_enter Tryz.func199,Tryz.ntmps199
 go_wp2_with(first
  |(refine zda rfl (some 1) rfl _ (.tmp 0) rfl (ints .u8 b) rfl ?_;intro g1 w1 hg1 hb1 hgr;have hB1:=(Below.refl _ w).grown hgr (Nat.le_refl _) (by simp);clear hgr)
  |(refine zaK rfl (some 2) rfl _ rfl _ z57 ?_;intro g2 w2 hg2 hb2 hgr;have hB2:=hB1.grown hgr hB1.size (by simp);replace hb1:=hb1.grownN hgr;clear hgr)
  |(refine zaK rfl (some 3) rfl _ rfl _ z57 ?_;intro g3 w3 hg3 hb3 hgr;have h23:g2<g3:=Nat.lt_of_lt_of_le hb2.lt hg3;have h2B:w.heap.size≤g2:=Nat.le_trans hB1.size hg2;have h3B:w.heap.size≤g3:=Nat.le_trans hB2.size hg3;have hB3:=hB2.grown hgr hB2.size (by simp);replace hb1:=hb1.grownN hgr;replace hb2:=hb2.grownN hgr;clear hgr)
  |(refine zae rfl (some 11) rfl _ (.tmp 1) rfl _ 0 rfl _ _ hb1 (ints .u8 b) (by simp) _ Tryz.underlying179 rfl (by simp[s35,HB.out]) ?_))
 go_loopw[12] (fun i wr=> ∃k:Nat,k≤64∧i= .int .i64 k∧Blk wr g3 252 (ints .u32 (accs b k))∧w3.grownBy wr (some g3)) (fun i _=>64-(intOf i).toNat)
 case atStart=>exact⟨0,by omega,rfl,hb3,zaY _ _⟩
 case round=>
  obtain⟨k,hk,rfl,hbr,hgr⟩:=hrel
  by_cases hlt:k<64
  ·obtain⟨hd0,hd1⟩:=HBD.out k
   obtain⟨ha0,ha1⟩:=accs_bd b k (k/4)
   have hq:k/4<64:=by omega
   have gx:=zaq .u8 b k (by rw[HB.out];exact hlt)
   have gy:=zaq .u32 (accs b k) (k/4) (by rw[length_accs];exact hq)
   obtain⟨x,hx⟩: ∃x,x=b.getD k 0:=⟨_,rfl⟩
   obtain⟨y,hy⟩: ∃y,y=(accs b k).getD (k/4) 0:=⟨_,rfl⟩
   rw[←hx]at hd0 hd1 gx
   rw[←hy]at ha0 ha1 gy
   have HS:Hid ((ints .u32 (accs b k)).set (k/4) (.int .u32 (bits .or .u32 (y*256%4294967296) x))=ints .u32 (accs b (k+1))):=by
    rw[zcc,accs,hx,hy];exact rfl
   have GX:=Lib.hid gx
   have GY:=Lib.hid gy
   clear hx hy gx gy
   go_wp2_with(first
    |(refine zcl rfl (some 15) rfl _ (.tmp 11) (.tmp 12) rfl (ints .u8 b) rfl .i64 k rfl 64 5 Tryz.underlying179 hlt .u8 Tryz.underlying5 s5 (.int .u8 x) GX.out ?_)
    |(refine zbV rfl (some 21) rfl _ (.tmp 20) rfl g3 (k/4) rfl _ _ hbr (.int .u32 y) GY.out .u32 Tryz.underlying124 ?_)
    |(refine zaf rfl none rfl _ (.tmp 26) (.tmp 25) rfl g3 (k/4) (.int .u32 (bits .or .u32 (y*256%4294967296) x)) rfl rfl rfl _ _ hbr (by rw[length_ints,length_accs];exact hq) s33 ?_;intro w4 hb4 hgr4;replace hgr:=hgr.trans hgr4))
   go_roundw
   case rel=>rw[HS.out]at hb4;exact⟨k+1,by omega,by go_num,hb4,hgr⟩
   case measure=>simp[intOf];omega
  ·obtain⟨k0,rfl⟩: ∃k0,k0=k:=⟨_,rfl⟩
   have hk0:=Lib.hid (show k0=64 by omega)
   replace hbr:Blk wr g3 252 (ints .u32 (accs b 64)):=by rw[←hk0.out];exact hbr
   have hB4:=hB3.grown hgr hB3.size (by intro k hk;injection hk with hk;omega)
   have hb2':=hb2.grown hgr (by intro h;injection h with h;omega)
   go_wp2_with fail
   clear hb1 hb2 hb3 hgr hB1 hB2 hB3
   obtain⟨w3,rfl⟩: ∃wo:World,wo=wr:=⟨_,rfl⟩
   go_loopw[6] (fun i wr=> ∃k:Nat,16≤k∧k≤64∧i= .int .i64 k∧Blk wr g3 252 (ints .u32 (zbx b (k-16)))∧w3.grownBy wr (some g3)) (fun i _=>64-(intOf i).toNat)
   case atStart=>exact⟨16,by omega,by omega,rfl,hbr,zaY _ _⟩
   case round=>
    clear hbr
    obtain⟨k,hk16,hk,rfl,hbr,hgr⟩:=hrel
    by_cases hlt:k<64
    ·have hL:(zbx b (k-16)).length=64:=length_sched _ _
     have gp:=(hbr.cell (k-2)).trans (zaq .u32 (zbx b (k-16)) (k-2) (by omega))
     have gq:=(hbr.cell (k-15)).trans (zaq .u32 (zbx b (k-16)) (k-15) (by omega))
     have gr:=(hbr.cell (k-7)).trans (zaq .u32 (zbx b (k-16)) (k-7) (by omega))
     have gs:=(hbr.cell (k-16)).trans (zaq .u32 (zbx b (k-16)) (k-16) (by omega))
     obtain⟨hp0,hp1⟩:=zfz b (k-16) (k-2)
     obtain⟨hq0,hq1⟩:=zfz b (k-16) (k-15)
     obtain⟨hr0,hr1⟩:=zfz b (k-16) (k-7)
     obtain⟨hs0,hs1⟩:=zfz b (k-16) (k-16)
     have hnx:zhc (zbx b (k-16)) k=(sig1 ((zbx b (k-16)).getD (k-2) 0)+(zbx b (k-16)).getD (k-7) 0+sig0 ((zbx b (k-16)).getD (k-15) 0)+(zbx b (k-16)).getD (k-16) 0)%4294967296:=rfl
     have HS:Hid ((ints .u32 (zbx b (k-16))).set k (.int .u32 (zhc (zbx b (k-16)) k))=ints .u32 (zbx b (k+1-16))):=by
      rw[zcc,show k+1-16=(k-16)+1 by omega,zbx,show 16+(k-16)=k by omega];exact rfl
     rw[hnx]at HS
     obtain⟨p,hp⟩: ∃x,x=(zbx b (k-16)).getD (k-2) 0:=⟨_,rfl⟩
     obtain⟨q,hq⟩: ∃x,x=(zbx b (k-16)).getD (k-15) 0:=⟨_,rfl⟩
     obtain⟨r,hr⟩: ∃x,x=(zbx b (k-16)).getD (k-7) 0:=⟨_,rfl⟩
     obtain⟨s,hs⟩: ∃x,x=(zbx b (k-16)).getD (k-16) 0:=⟨_,rfl⟩
     rw[←hp]at hp0 hp1 gp HS
     rw[←hq]at hq0 hq1 gq HS
     rw[←hr]at hr0 hr1 gr HS
     rw[←hs]at hs0 hs1 gs HS
     clear hp hq hr hs hnx hL
     have cp17: ∀w,Calls Tryz.prog 215 #[.int .u32 p,.int .i64 17] w (fun e w'=>e= .returned (.int .u32 (rotr p 17))∧w=w'):=fun w=>zei p 17 w hp0 hp1 (by omega) (by omega)
     have cp19: ∀w,Calls Tryz.prog 215 #[.int .u32 p,.int .i64 19] w (fun e w'=>e= .returned (.int .u32 (rotr p 19))∧w=w'):=fun w=>zei p 19 w hp0 hp1 (by omega) (by omega)
     have cq7: ∀w,Calls Tryz.prog 215 #[.int .u32 q,.int .i64 7] w (fun e w'=>e= .returned (.int .u32 (rotr q 7))∧w=w'):=fun w=>zei q 7 w hq0 hq1 (by omega) (by omega)
     have cq18: ∀w,Calls Tryz.prog 215 #[.int .u32 q,.int .i64 18] w (fun e w'=>e= .returned (.int .u32 (rotr q 18))∧w=w'):=fun w=>zei q 18 w hq0 hq1 (by omega) (by omega)
     go_wp2_with fail
     go_quiet (fail)
     go_wp2_with(go_at_call 215;first|((with_reducible refine(cp17 _).mono ?_);rintro e w' ⟨rfl,rfl⟩)|((with_reducible refine(cp19 _).mono ?_);rintro e w' ⟨rfl,rfl⟩)|((with_reducible refine(cq7 _).mono ?_);rintro e w' ⟨rfl,rfl⟩)|((with_reducible refine(cq18 _).mono ?_);rintro e w' ⟨rfl,rfl⟩))
     generalize hwq:wr.drewN nq=wq
     have hbq:Blk wq g3 252 (ints .u32 (zbx b (k-16))):=by rw[←hwq];exact hbr
     have hgq:w3.grownBy wq (some g3):=by rw[←hwq];exact zhj hgr _
     have gr':wq.cell? ⟨g3,k-7,none⟩=some (.int .u32 r):=by rw[←hwq];exact gr
     have gs':wq.cell? ⟨g3,k-16,none⟩=some (.int .u32 s):=by rw[←hwq];exact gs
     clear hwq gp gq gr gs hbr hgr cp17 cp19 cq7 cq18
     have gk:=(hbq.cell k).trans (zaq .u32 (zbx b (k-16)) k (by rw[length_sched];exact hlt))
     obtain⟨z,hz⟩: ∃x,x=(zbx b (k-16)).getD k 0:=⟨_,rfl⟩
     rw[←hz]at gk
     have gf:=hbq.frozen k
     clear hz
     go_region
     have hb9:=(hbq.setCell k (.int .u32 ((sig1 p+r+sig0 q+s)%4294967296))).drew
     have hg9:=zaJ (hgq.trans (zaV wq g3 k (.int .u32 ((sig1 p+r+sig0 q+s)%4294967296))))
     rw[HS.out]at hb9
     have HR:=Lib.hid (And.intro hb9 hg9)
     clear hb9 hg9 hbq hgq gr' gs' gk gf HS hp0 hp1 hq0 hq1 hr0 hr1 hs0 hs1
     go_wp2_with fail
     go_roundw
     case rel=>exact⟨k+1,by omega,by omega,by go_num,HR.out.1,HR.out.2⟩
     case measure=>simp[intOf];omega
    ·obtain rfl:k=64:=by omega
     have hB5:=hB4.grown hgr hB4.size (by intro k hk;injection hk with hk;omega)
     have hb2w:=hb2'.grown hgr (by intro h;injection h with h;omega)
     clear hgr hB4 hb2'
     go_wp2_with(first
      |(refine zae rfl (some 71) rfl _ (.tmp 3) rfl _ 0 rfl _ _ hbr (ints .u32 (zbx b 48)) (by simp) _ Tryz.underlying252 rfl (by rw[s57,length_ints,length_sched]) ?_)
      |(refine zac rfl none rfl _ (.tmp 2) (.tmp 71) rfl g2 0 (ints .u32 (zbx b 48)) rfl rfl _ _ hb2w (by simp) (by rw[s57,length_ints,length_sched]) (zal _ _) ?_;intro w9 hb9 hgr9;replace hB5:=hB5.grown hgr9 hB5.size (by intro k hk;injection hk with hk;omega)))
     rw[zah _ _ (by simp)]at hb9
     exact bodyPost_ret (v:= .agg (ints .u32 (zbx b 48)).toArray) (zbb Tryz.results199 _ _ g2 _ _ _ rfl hb9 Tryz.underlying252 rfl (by rw[s57,length_ints,length_sched])) rfl ⟨rfl,hB5⟩
theorem z34:(Tryz.prog.info? 219).map (·.zero)=some (some (.agg (ints .u32 (List.replicate 8 0)).toArray)):=by kernel_rfl
theorem s34:(Tryz.prog.info? 219).map (·.size)=some 8:=by kernel_rfl
def Word (x:Int):Prop:=0≤x∧x<4294967296
def MixRel (W s:List Int) (w8:World) (va vb vc vd ve vf vg vh i:Value) (wr:World):Prop:=
 ∃(k n:Nat) (a b c d e f g h:Int),k≤64∧rnds W s k=[a,b,c,d,e,f,g,h]∧(Word a∧Word b∧Word c∧Word d∧Word e∧Word f∧Word g∧Word h)∧
  va= .int .u32 a∧vb= .int .u32 b∧vc= .int .u32 c∧vd= .int .u32 d∧ve= .int .u32 e∧vf= .int .u32 f∧vg= .int .u32 g∧vh= .int .u32 h∧i= .int .i64 k∧wr=w8.drewN n
theorem roots_bd: ∀i,0≤rootsL.getD i 0∧rootsL.getD i 0<4294967296:=by
 intro i
 by_cases h:i<64
 ·have: ∀j:Fin 64,0≤rootsL.getD j.val 0∧rootsL.getD j.val 0<4294967296:=by decide+kernel
  exact this ⟨i,h⟩
 ·rw[List.getD_eq_getElem?_getD,List.getElem?_eq_none (by rw[zfo];omega)];decide
theorem znK (s b:List Int) (w:World) (hs:s.length=8) (hsd: ∀i,0≤s.getD i 0∧s.getD i 0<4294967296) (hb:b.length=64) (hbd: ∀i,0≤b.getD i 0∧b.getD i 0≤255)
  (hroots:Blk w 2 252 (ints .u32 rootsL)):
  Calls Tryz.prog 179 #[.agg (ints .u32 s).toArray,.agg (ints .u8 b).toArray] w fun e w'=>e= .returned (.agg (ints .u32 (mixL s b)).toArray)∧Below w.heap.size w w':=by
 have HS:=Lib.hid hs
 have HSD:=Lib.hid hsd
 have HB:=Lib.hid hb
 obtain⟨W,HW,HWL,HWD,cspread⟩: ∃W,Hid (W=zbx b 48)∧Hid (W.length=64)∧Hid (∀i,0≤W.getD i 0∧W.getD i 0<4294967296)∧
   ∀w,Calls Tryz.prog 199 #[.agg (ints .u8 b).toArray] w fun e w'=>e= .returned (.agg (ints .u32 W).toArray)∧Below w.heap.size w w':=
  ⟨_,Lib.hid rfl,Lib.hid (length_sched b 48),Lib.hid (zfz b 48),fun w=>spread_any b w hb hbd⟩
 have hr0:=hroots.lt
 have HSD':=Lib.hid (addU_bd s (rnds W s 64) hsd)
 clear hs hsd hb hbd
 go_enter Tryz.func179,Tryz.ntmps179
 go_wp2_with(first
  |(refine zda rfl (some 2) rfl _ (.tmp 0) rfl (ints .u32 s) rfl ?_;intro g2 w2 hg2 hb2 hgr;have hB:=(Below.refl _ w).grown hgr (Nat.le_refl _) (by simp);clear hgr)
  |(refine zda rfl (some 3) rfl _ (.tmp 1) rfl (ints .u8 b) rfl ?_;intro g3 w3 hg3 hb3 hgr;have h23:g2<g3:=Nat.lt_of_lt_of_le hb2.lt hg3;replace hB:=hB.grown hgr hB.size (by simp);replace hb2:=hb2.grownN hgr;clear hgr)
  |(refine zaK rfl (some 4) rfl _ rfl _ z34 ?_;intro g4 w4 hg4 hb4 hgr;have h34:g3<g4:=Nat.lt_of_lt_of_le hb3.lt hg4;have h2B:w.heap.size≤g2:=hg2;have h4B:w.heap.size≤g4:=Nat.le_trans hB.size hg4;replace hB:=hB.grown hgr hB.size (by simp);replace hb2:=hb2.grownN hgr;replace hb3:=hb3.grownN hgr;clear hgr)
  |(refine zae rfl (some 20) rfl _ (.tmp 3) rfl _ 0 rfl _ _ hb3 (ints .u8 b) (by simp) _ Tryz.underlying179 rfl (by rw[s35,length_ints,HB.out]) ?_)
  |(go_at_call 199;refine(cspread _).mono ?_;rintro e w5 ⟨rfl,hbw⟩;replace hb2:=hb2.below hbw hb2.lt;replace hb3:=hb3.below hbw hb3.lt;have hg4':=hb4.lt;replace hb4:=hb4.below hbw hb4.lt;replace hB:=hB.trans (hbw.mono hB.size);clear hbw)
  |(refine zaK rfl (some 5) rfl _ rfl _ z57 ?_;intro g5 w6 hg5 hb5 hgr;have h45:g4<g5:=Nat.lt_of_lt_of_le hb4.lt hg5;have h5B:w.heap.size≤g5:=Nat.le_trans hB.size hg5;replace hB:=hB.grown hgr hB.size (by simp);replace hb2:=hb2.grownN hgr;replace hb4:=hb4.grownN hgr;clear hgr)
  |(refine zac rfl none rfl _ (.tmp 5) (.tmp 21) rfl g5 0 (ints .u32 W) rfl rfl _ _ hb5 (by simp[HWL.out]) (by rw[s57,length_ints,HWL.out]) (zal _ _) ?_;intro w7 hb7 hgr7;rw[zah _ _ (by simp[HWL.out])]at hb7;replace hB:=hB.grown hgr7 hB.size (by intro k hk;injection hk with hk;omega);replace hb2:=hb2.grown hgr7 (by intro h;injection h with h;omega);replace hb4:=hb4.grown hgr7 (by intro h;injection h with h;omega);clear hgr7))
 go_frame
 have hg0:=(hb2.cell 0).trans (zaq .u32 s 0 (by rw[HS.out];omega))
 have hg1:=(hb2.cell 1).trans (zaq .u32 s 1 (by rw[HS.out];omega))
 have hg2:=(hb2.cell 2).trans (zaq .u32 s 2 (by rw[HS.out];omega))
 have hg3:=(hb2.cell 3).trans (zaq .u32 s 3 (by rw[HS.out];omega))
 have hg4:=(hb2.cell 4).trans (zaq .u32 s 4 (by rw[HS.out];omega))
 have hg5:=(hb2.cell 5).trans (zaq .u32 s 5 (by rw[HS.out];omega))
 have hg6:=(hb2.cell 6).trans (zaq .u32 s 6 (by rw[HS.out];omega))
 have hg7:=(hb2.cell 7).trans (zaq .u32 s 7 (by rw[HS.out];omega))
 obtain⟨s0,e0⟩: ∃x,x=s.getD 0 0:=⟨_,rfl⟩
 obtain⟨s1,e1⟩: ∃x,x=s.getD 1 0:=⟨_,rfl⟩
 obtain⟨s2,e2⟩: ∃x,x=s.getD 2 0:=⟨_,rfl⟩
 obtain⟨s3,e3⟩: ∃x,x=s.getD 3 0:=⟨_,rfl⟩
 obtain⟨s4,e4⟩: ∃x,x=s.getD 4 0:=⟨_,rfl⟩
 obtain⟨s5,e5⟩: ∃x,x=s.getD 5 0:=⟨_,rfl⟩
 obtain⟨s6,e6⟩: ∃x,x=s.getD 6 0:=⟨_,rfl⟩
 obtain⟨s7,e7⟩: ∃x,x=s.getD 7 0:=⟨_,rfl⟩
 rw[←e0]at hg0;rw[←e1]at hg1;rw[←e2]at hg2;rw[←e3]at hg3;rw[←e4]at hg4;rw[←e5]at hg5;rw[←e6]at hg6;rw[←e7]at hg7
 have HE:Hid (s=[s0,s1,s2,s3,s4,s5,s6,s7]):=Lib.hid (by
  have hl:=HS.out
  subst e0 e1 e2 e3 e4 e5 e6 e7
  match s,hl with
  |[x0,x1,x2,x3,x4,x5,x6,x7],_=>rfl)
 have b0:=HSD.out 0;have b1:=HSD.out 1;have b2:=HSD.out 2;have b3:=HSD.out 3;have b4:=HSD.out 4;have b5:=HSD.out 5;have b6:=HSD.out 6;have b7:=HSD.out 7
 rw[←e0]at b0;rw[←e1]at b1;rw[←e2]at b2;rw[←e3]at b3;rw[←e4]at b4;rw[←e5]at b5;rw[←e6]at b6;rw[←e7]at b7
 clear e0 e1 e2 e3 e4 e5 e6 e7
 go_quiet (fail)
 clear hg0 hg1 hg2 hg3 hg4 hg5 hg6 hg7
 have hbX:Blk (w7.drewN nq) g5 252 (ints .u32 W):=hb7
 go_wp2_with(refine zae rfl (some 38) rfl _ (.tmp 5) rfl _ 0 rfl _ _ hbX (ints .u32 W) (by simp) _ Tryz.underlying252 rfl (by rw[s57,length_ints,HWL.out]) ?_)
 replace hB:=zaw hB nq
 have hroots8:Blk (w7.drewN nq) 2 252 (ints .u32 rootsL):=hroots.below hB hr0
 replace hb2:=hb2.drewN nq
 replace hb4:=hb4.drewN nq
 clear hb7 hbX hb5 hb3 hroots
 generalize w7.drewN nq=w8 at*
 go_loopw[6,7,8,9,10,11,12,13,39] (fun va vb vc vd ve vf vg vh i wr=>MixRel W s w8 va vb vc vd ve vf vg vh i wr) (fun _ _ _ _ _ _ _ _ i _=>64-(intOf i).toNat)
 case atStart=>exact⟨0,0,s0,s1,s2,s3,s4,s5,s6,s7,by omega,HE.out,⟨b0,b1,b2,b3,b4,b5,b6,b7⟩,rfl,rfl,rfl,rfl,rfl,rfl,rfl,rfl,rfl,rfl⟩
 case round=>
  obtain⟨k,n,a,b',c,d,e,f,g,h,hk,hrk,⟨⟨ha0,ha1⟩,⟨hb0,hb1⟩,⟨hc0,hc1⟩,⟨hd0,hd1⟩,⟨he0,he1⟩,⟨hf0,hf1⟩,⟨hg0,hg1⟩,⟨hh0,hh1⟩⟩,rfl,rfl,rfl,rfl,rfl,rfl,rfl,rfl,rfl,rfl⟩:=hrel
  have HRK:=Lib.hid hrk
  clear hrk
  by_cases hlt:k<64
  ·have gW:=zaq .u32 W k (by rw[HWL.out];exact hlt)
   have gK:(w8.drewN n).cell? ⟨2,k,none⟩=_:=(hroots8.cell k).trans (zaq .u32 rootsL k (by rw[zfo];exact hlt))
   obtain⟨hw0,hw1⟩:=HWD.out k
   obtain⟨hk0,hk1⟩:=roots_bd k
   obtain⟨wt,ewt⟩: ∃x,x=W.getD k 0:=⟨_,rfl⟩
   obtain⟨kt,ekt⟩: ∃x,x=rootsL.getD k 0:=⟨_,rfl⟩
   rw[←ewt]at gW hw0 hw1
   rw[←ekt]at gK hk0 hk1
   have EWT:=Lib.hid ewt
   have EKT:=Lib.hid ekt
   have GW:=Lib.hid gW
   clear ewt ekt gW
   have ce: ∀w,Calls Tryz.prog 200 #[.int .u32 e,.int .i64 6,.int .i64 11,.int .i64 25] w (fun v w'=>v= .returned (.int .u32 (ziV e 6 11 25))∧w=w'):=fun w=>turns_any e 6 11 25 w he0 he1 (by omega) (by omega) (by omega) (by omega) (by omega) (by omega)
   have ca: ∀w,Calls Tryz.prog 200 #[.int .u32 a,.int .i64 2,.int .i64 13,.int .i64 22] w (fun v w'=>v= .returned (.int .u32 (ziV a 2 13 22))∧w=w'):=fun w=>turns_any a 2 13 22 w ha0 ha1 (by omega) (by omega) (by omega) (by omega) (by omega) (by omega)
   go_wp2_with(first
    |(refine zcl rfl (some 42) rfl _ (.tmp 38) (.tmp 39) rfl (ints .u32 W) rfl .i64 k rfl 64 124 Tryz.underlying252 hlt .u32 Tryz.underlying124 s33 (.int .u32 wt) GW.out ?_))
   have ce':=fun w=>(ce w).mono fun _ _ (hh:_∧_)=>(⟨hh.1,hh.2.symm⟩:_∧_)
   obtain⟨wr,hwr⟩: ∃x,x=w8.drewN n:=⟨_,rfl⟩
   rw[←hwr]at gK⊢
   have HWR:=Lib.hid hwr
   clear hwr
   go_quiet ((go_at_call 200;exact Calls.quiet_of_same (ce' _)))
   clear gK ce ce'
   go_wp2_with(go_at_call 200;refine(ca _).mono ?_;rintro e w' ⟨rfl,rfl⟩)
   refine⟨⟨k+1,n+nq,_,a,b',c,_,e,f,g,by omega,?_,⟨⟨by omega,by omega⟩,⟨ha0,ha1⟩,⟨hb0,hb1⟩,⟨hc0,hc1⟩,⟨by omega,by omega⟩,⟨he0,he1⟩,⟨hf0,hf1⟩,⟨hg0,hg1⟩⟩,rfl,rfl,rfl,rfl,rfl,rfl,rfl,rfl,by go_num,?_⟩,by simp[intOf];omega⟩
   ·show rnd (rnds W s k) (rootsL.getD k 0) (W.getD k 0)=_
    rw[HRK.out,←EKT.out,←EWT.out];rfl
   ·rw[HWR.out,World.drewN_drewN]
  ·have HK:=Lib.hid (show k=64 by omega)
   have hbr:Blk (w8.drewN n) g2 219 (ints .u32 s):=hb2
   have hb4r:Blk (w8.drewN n) g4 219 (ints .u32 (List.replicate 8 0)):=hb4
   replace hB:=zaw hB n
   clear hb2 hb4 hroots8
   generalize w8.drewN n=w9 at*
   have hdec:decide ((k:Int)<64)=false:=by simp;omega
   go_wp2_with fail
   have hbd0: ∀j i,0≤(addU s [a,b',c,d,e,f,g,h] j).getD i 0∧(addU s [a,b',c,d,e,f,g,h] j).getD i 0<4294967296:=by
    have:=HSD'.out;rw[←HK.out,HRK.out]at this;exact this
   have HBD0:=Lib.hid hbd0
   have hRb: ∀i,0≤[a,b',c,d,e,f,g,h].getD i 0∧[a,b',c,d,e,f,g,h].getD i 0<4294967296:=fun i=>
    match i with
    |0=>⟨ha0,ha1⟩|1=>⟨hb0,hb1⟩|2=>⟨hc0,hc1⟩|3=>⟨hd0,hd1⟩|4=>⟨he0,he1⟩|5=>⟨hf0,hf1⟩|6=>⟨hg0,hg1⟩|7=>⟨hh0,hh1⟩
    |n+8=>by simp
   have HRB:=Lib.hid hRb
   clear hbd0 hRb HSD' hdec
   go_loopw[98] (fun i wr=> ∃j:Nat,j≤8∧i= .int .i64 j∧Blk wr g2 219 (ints .u32 (addU s [a,b',c,d,e,f,g,h] j))∧w9.grownBy wr (some g2)) (fun i _=>8-(intOf i).toNat)
   case atStart=>exact⟨0,by omega,rfl,hbr,zaY _ _⟩
   case round=>
    obtain⟨j,hj,rfl,hbj,hgr⟩:=hrel
    by_cases hlj:j<8
    ·have gx:=zaq .u32 (addU s [a,b',c,d,e,f,g,h] j) j (by rw[length_addU,HS.out];exact hlj)
     have gy:=zaq .u32 [a,b',c,d,e,f,g,h] j hlj
     obtain⟨hx0,hx1⟩:=HBD0.out j j
     obtain⟨hy0,hy1⟩:=HRB.out j
     have HSET:Hid ((ints .u32 (addU s [a,b',c,d,e,f,g,h] j)).set j (.int .u32 (((addU s [a,b',c,d,e,f,g,h] j).getD j 0+[a,b',c,d,e,f,g,h].getD j 0)%4294967296))=ints .u32 (addU s [a,b',c,d,e,f,g,h] (j+1))):=by
      rw[zcc];exact rfl
     obtain⟨x,hx⟩: ∃x,x=(addU s [a,b',c,d,e,f,g,h] j).getD j 0:=⟨_,rfl⟩
     obtain⟨y,hy⟩: ∃x,x=[a,b',c,d,e,f,g,h].getD j 0:=⟨_,rfl⟩
     rw[←hx]at gx hx0 hx1 HSET
     rw[←hy]at gy hy0 hy1 HSET
     have GX:=Lib.hid gx
     have GY:=Lib.hid gy
     clear hx hy gx gy
     go_wp2_with(first
      |(refine zcl rfl (some 101) rfl _ (.tmp 97) (.tmp 98) rfl (ints .u32 [a,b',c,d,e,f,g,h]) rfl .i64 j rfl 8 124 Tryz.underlying219 hlj .u32 Tryz.underlying124 s33 (.int .u32 y) GY.out ?_)
      |(refine zbV rfl (some 104) rfl _ (.tmp 103) rfl g2 j rfl _ _ hbj (.int .u32 x) GX.out .u32 Tryz.underlying124 ?_)
      |(refine zaf rfl none rfl _ (.tmp 107) (.tmp 106) rfl g2 j (.int .u32 ((x+y)%4294967296)) rfl rfl rfl _ _ hbj (by rw[length_ints,length_addU,HS.out];exact hlj) s33 ?_;intro w10 hb10 hgr10;replace hgr:=hgr.trans hgr10))
     go_roundw
     case rel=>rw[HSET.out]at hb10;exact⟨j+1,by omega,by go_num,hb10,hgr⟩
     case measure=>simp[intOf];omega
    ·have HJ:=Lib.hid (show j=8 by omega)
     have hbj':Blk wr g2 219 (ints .u32 (mixL s b)):=by
      have e:mixL s b=addU s [a,b',c,d,e,f,g,h] j:=by rw[mixL,←HW.out,←HK.out,HRK.out,HJ.out]
      rw[e];exact hbj
     have hb4w:=hb4r.grown hgr (by intro h;injection h with h;omega)
     replace hB:=hB.grown hgr hB.size (by intro k hk;injection hk with hk;omega)
     have HLM:Hid ((mixL s b).length=8):=Lib.hid (by rw[zbc,HS.out])
     clear hbj hb4r hgr
     obtain⟨M,hM⟩: ∃M,M=mixL s b:=⟨_,rfl⟩
     rw[←hM]at hbj' HLM
     have HM:=Lib.hid hM
     clear hM
     go_wp2_with(first
      |(refine zae rfl (some 109) rfl _ (.tmp 2) rfl _ 0 rfl _ _ hbj' (ints .u32 M) (by simp) _ Tryz.underlying219 rfl (by rw[s34,length_ints,HLM.out]) ?_)
      |(refine zac rfl none rfl _ (.tmp 4) (.tmp 109) rfl g4 0 (ints .u32 M) rfl rfl _ _ hb4w (by simp[HLM.out]) (by rw[s34,length_ints,HLM.out]) (zal _ _) ?_;intro w11 hb11 hgr11;replace hB:=hB.grown hgr11 hB.size (by intro k hk;injection hk with hk;omega)))
     rw[zah _ _ (by simp[HLM.out])]at hb11
     exact bodyPost_ret (v:= .agg (ints .u32 M).toArray) (zbb Tryz.results179 _ _ g4 _ _ _ rfl hb11 Tryz.underlying219 rfl (by rw[s34,length_ints,HLM.out])) rfl ⟨by rw[HM.out],hB⟩
end Go.Proofs.YtceddodfddlncaaGreatDoor
