
import Derived.WalkLawsBesides
import Derived.WalkSpells
import Derived.Handy
import Derived.RegionTactic
import Derived.StillTailTactics
import Derived.LoopTactic
import Derived.Test.YtjfgmgkhinehaaaGreatDoorCq01
set_option maxRecDepth 100000
set_option maxHeartbeats 16000000
set_option linter.all false
namespace Go.Proofs.YtjfgmgkhinehaaaGreatDoor
open Go Go.RowKit
abbrev Marks (w:World):Prop:=Blk w 2 261 (ints .i64 [0,0,192,224,240])
theorem Marks.below {w w':World} (h:Marks w) (hb:Below w.heap.size w w'):Marks w':=Blk.below h hb h.lt
theorem zcw {w:World} (h:Marks w) (k:Nat) (hk:k<5):w.cell? ⟨2,k,none⟩=some (.int .i64 (zft k)):=by
 rw[Blk.cell h]
 match k,hk with
 |0,_=>rfl
 |1,_=>rfl
 |2,_=>rfl
 |3,_=>rfl
 |4,_=>rfl
theorem size_facts (n:Int): ∃k:Nat,k=(putL n).length∧k≤4∧(n<0→k=0)∧(1114112≤n→k=0)∧(55296≤n→n<57344→k=0)∧(0≤n→n<128→k=1)∧(128≤n→n<2048→k=2)∧(2048≤n→n<55296→k=3)∧(57344≤n→n<65536→k=3)∧(65536≤n→n<1114112→k=4):=by
 refine⟨_,rfl,zcn n,?_⟩
 rcases zcu n with⟨h,h'⟩|⟨h1,h2,h⟩|⟨h1,h2,h⟩|⟨h1,h2,h3,h⟩|⟨h1,h2,h⟩<;>rw[h]<;>simp only[List.length_cons,List.length_nil,Nat.zero_add,Nat.reduceAdd]<;>refine⟨?_,?_,?_,?_,?_,?_,?_,?_⟩<;>intros<;>first|trivial|omega
theorem zlm (n:Int) (w:World):
  Calls Tryz.prog 199 #[.int .i64 n] w fun e w'=>e= .returned (.int .i64 (((putL n).length:Nat):Int))∧w=w':=by
 obtain⟨k,hk,hf⟩:=size_facts n
 rw[←hk]
 have HF:=Lib.hid hf
 clear hk hf
 go_enter Tryz.func199,Tryz.ntmps199
 go_wp2
 all_goals go_ret
 all_goals exact⟨ziW (by have:=HF.out;omega),rfl⟩
theorem or_128 (n:Int) (h:0≤n∧n<64):bits .or .i64 128 n=128+n:=zgY 1 n 7 h.1 (by omega) (by decide) (by omega)
theorem zjQ (n:Int) (w:World) (h0:0≤n) (h1:n≤9223372036854775807):
  Calls Tryz.prog 223 #[.int .i64 n] w fun e w'=>e= .returned (.int .u8 (128+n%64))∧w=w':=by
 have e1:=ziq n 6 (by decide) h0 (by omega)
 replace e1:bits .and .i64 n 63=n%64:=e1
 have e2:=or_128 (n%64) (by omega)
 go_enter Tryz.func223,Tryz.ntmps223
 go_wp2
 go_ret
 exact⟨ziW (by omega),rfl⟩
theorem wanted_any (c:Int) (w:World) (hm:Marks w) (h0:0≤c) (h1:c≤255):
  Calls Tryz.prog 221 #[.int .u8 c] w fun e w'=>e= .returned (.int .i64 (((zbr c-1:Nat):Int)))∧w=w':=by
 have m4:w.cell? ⟨2,4,none⟩=some (.int .i64 240):=zcw hm 4 (by decide)
 have m3:w.cell? ⟨2,3,none⟩=some (.int .i64 224):=zcw hm 3 (by decide)
 have m2:w.cell? ⟨2,2,none⟩=some (.int .i64 192):=zcw hm 2 (by decide)
 have hf:(240≤c→zbr c=4)∧(224≤c→c<240→zbr c=3)∧(192≤c→c<224→zbr c=2)∧(c<192→zbr c=1):=by
  unfold zbr
  refine⟨fun h=>if_pos h,fun h h'=> ?_,fun h h'=> ?_,fun h=> ?_⟩
  ·rw[if_neg (by omega),if_pos h]
  ·rw[if_neg (by omega),if_neg (by omega),if_pos h]
  ·rw[if_neg (by omega),if_neg (by omega),if_neg (by omega)]
 obtain⟨k,hk⟩: ∃k,k=zbr c:=⟨_,rfl⟩
 rw[←hk]at hf⊢
 have HF:=Lib.hid hf
 clear hk hf hm
 go_enter Tryz.func221,Tryz.ntmps221
 go_wp2
 all_goals go_ret
 all_goals exact⟨ziW (by have:=HF.out;omega),rfl⟩
theorem RepJ.open {W:World} {j:J} {v:Value} (h:RepJ W j v): ∃vk A c,v= .agg #[.int .i64 j.kind,.int .i64 j.n,.string j.s,.slice A j.l.length c,vk]∧j.s.size≤9223372036854775807∧RepK W j.k vk∧j.l.length≤9223372036854775807∧
  (j.l≠[]→ ∃b o,A=some ⟨b,o,none⟩∧b<W.heap.size∧RepC W b o j.l):=by
 cases j;rw[RepJ]at h;exact h
theorem RepK.open {W:World} {k:List ByteArray} {v:Value} (h:RepK W k v): ∃A c,v= .slice A k.length c∧k.length≤9223372036854775807∧ ∀i (hi:i<k.length),∃b o,A=some ⟨b,o,none⟩∧b<W.heap.size∧(k[i]).size≤9223372036854775807∧W.cell? ⟨b,o+i,none⟩=some (.string k[i]):=by
 obtain⟨A,c,e,hl,hc⟩:=h
 refine⟨A,c,e,hl,fun i hi=> ?_⟩
 obtain⟨b,o,e1,hlt,hcs⟩:=hc (fun e=>by rw[e]at hi;exact absurd hi (Nat.not_lt_zero _))
 obtain⟨t,h1,h2,h3⟩:=hcs i hi
 rw[List.getElem?_eq_getElem hi]at h1
 obtain rfl:=Option.some.inj h1
 exact⟨b,o,e1,hlt,h2,h3⟩
theorem beq_str {a b:ByteArray} (h:a=b):(a.toList==b.toList)=true:=by rw[zdJ];exact decide_eq_true h
theorem zig {a b:ByteArray} (h:a≠b):(a.toList==b.toList)=false:=by rw[zdJ];exact decide_eq_false h
def atL (l:List Int) (i:Nat):Int:=l.getD i (-1)
theorem zhJ (s:ByteArray) (i:Nat) (h:i<s.size):atL (strL s) i=(s[i].toNat:Int):=by
 rw[←zaz s i h,atL]
 have h2:i<(strL s).length:=by rw[zaX];exact h
 rw[List.getD_eq_getElem?_getD,List.getD_eq_getElem?_getD,List.getElem?_eq_getElem h2]
 rfl
theorem zob (s:ByteArray) (i:Nat) (h:s.size≤i):atL (strL s) i= -1:=by
 rw[atL,List.getD_eq_getElem?_getD,List.getElem?_eq_none (by rw[zaX];exact h)]
 rfl
def isB (c:Int):Bool:=decide (c=32∨c=9∨c=10∨c=13)
def zaY (l:List Int) (i:Nat):Nat:=if h:i<l.length then(if isB (atL l i)then zaY l (i+1)else i)else i
termination_by l.length-i
decreasing_by omega
theorem zgm {l:List Int} {i:Nat} (h:isB (atL l i)=true):zaY l i=zaY l (i+1):=by
 by_cases hl:i<l.length
 ·rw[zaY,dif_pos hl,if_pos h]
 ·exfalso
  rw[atL,List.getD_eq_getElem?_getD,List.getElem?_eq_none (by omega)]at h
  exact absurd h (by decide)
theorem zeq {l:List Int} {i:Nat} (h: ¬isB (atL l i)=true):zaY l i=i:=by
 by_cases hl:i<l.length
 ·rw[zaY,dif_pos hl,if_neg h]
 ·rw[zaY,dif_neg hl]
theorem zcz: ∀(n:Nat) (l:List Int) (i:Nat),l.length-i≤n→i≤l.length→i≤zaY l i∧zaY l i≤l.length
 |0,l,i,hn,hi=>by rw[zaY,dif_neg (by omega)];omega
 |n+1,l,i,hn,hi=>by
  rw[zaY]
  split
  ·split
   ·have:=zcz n l (i+1) (by omega) (by omega)
    omega
   ·omega
  ·omega
def zbq (l:List Int):Nat→List Int→Nat×Int
 |i,[]=>(i,0)
 |i,c::r=>if atL l i=c then zbq l (i+1) r else(i,50)
theorem zle {l x:List Int} {i k:Nat} (h:k<x.length):zbq l i (x.drop k)=if atL l i=x.getD k 0 then zbq l (i+1) (x.drop (k+1))else(i,50):=by
 rw[List.drop_eq_getElem_cons h,zbq,List.getD_eq_getElem?_getD,List.getElem?_eq_getElem h]
 rfl
theorem atL_bd (s:ByteArray) (i:Nat): -1≤atL (strL s) i∧atL (strL s) i≤255:=by
 rcases Nat.lt_or_ge i s.size with h|h
 ·rw[zhJ s i h];have:=(s[i]).toNat_lt;omega
 ·rw[zob s i h];omega
def hexD (c:Int):Int:=if 48≤c∧c≤57 then c-48 else if 97≤c∧c≤102 then c-97+10 else if 65≤c∧c≤70 then c-65+10 else-1
def hexL (l:List Int):Nat→Nat→Int→Int×Int
 |0,_,n=>(n,0)
 |k+1,i,n=>if hexD (atL l i)<0 then(-1,((min i l.length:Nat):Int))else hexL l k (i+1) (16*n+hexD (atL l i))
def zaq (c:Int):List Int:=if c=34∨c=92∨c=47 then[c]else if c=98 then[8]else if c=102 then[12]else if c=110 then[10]else if c=114 then[13]else if c=116 then[9]else[]
def spL (n:Int):List Int:=putL n++List.replicate (4-(putL n).length) 0
theorem spL_one {n:Int} (h:0≤n) (h1:n<128):spL n=[n,0,0,0]:=by unfold spL;rw[zfY h h1];rfl
theorem spL_two {n:Int} (h:128≤n) (h1:n<2048):spL n=[192+n/64,128+n%64,0,0]:=by unfold spL;rw[zjK h h1];rfl
theorem spL_three {n:Int} (h:2048≤n) (h1:n<65536) (h2:n<55296∨57343<n):spL n=[224+n/4096,128+n/64%64,128+n%64,0]:=by unfold spL;rw[zeu h h1 h2];rfl
theorem spL_four {n:Int} (h:65536≤n) (h1:n≤1114111):spL n=[240+n/262144,128+n/4096%64,128+n/64%64,128+n%64]:=by unfold spL;rw[zhk h h1];rfl
theorem spL_none {n:Int} (h:n<0∨1114111<n∨(55296≤n∧n≤57343)):spL n=[0,0,0,0]:=by unfold spL;rw[zfr h];rfl
theorem or_0 (x:Int) (h:0≤x∧x<256):bits .or .i64 0 x=x:=by
 have:=zgY 0 x 8 h.1 (by omega) (by decide) (by omega)
 simpa using this
theorem or_192 (x:Int) (h:0≤x∧x<64):bits .or .i64 192 x=192+x:=zgY 3 x 6 h.1 (by omega) (by decide) (by omega)
theorem or_224 (x:Int) (h:0≤x∧x<32):bits .or .i64 224 x=224+x:=zgY 7 x 5 h.1 (by omega) (by decide) (by omega)
theorem or_240 (x:Int) (h:0≤x∧x<16):bits .or .i64 240 x=240+x:=zgY 15 x 4 h.1 (by omega) (by decide) (by omega)
abbrev ziy (a b c d:Int):Array Value:= #[.int .u8 a,.int .u8 b,.int .u8 c,.int .u8 d]
theorem zer (n:Int) (k:Nat) (h:(putL n).length=k) (W:World):Calls Tryz.prog 199 #[.int .i64 n] W fun e w'=>e= .returned (.int .i64 (k:Int))∧W=w':=by
 have:=zlm n W
 rw[h]at this
 exact this
theorem spell_none (n:Int) (w:World) (h:putL n=[]):
  Calls Tryz.prog 219 #[.int .i64 n] w fun e w'=>e= .returned (.agg (ziy 0 0 0 0))∧Below w.heap.size w w':=by
 have HS:=Lib.hid (zer n 0 (by rw[h];rfl))
 clear h
 go_enter Tryz.func219,Tryz.ntmps219
 go_wp2_with(go_at_call 199;refine(HS.out _).mono ?_;rintro e w' ⟨rfl,rfl⟩)
 exact bodyPost_ret (v:= .agg (ziy 0 0 0 0)) (by simp[results,Tryz.results219,go_sem]) rfl ⟨rfl,((Below.refl _ _).alloc (Nat.le_refl _) _).alloc (by simp) _⟩
theorem zjJ {a b c d a' b' c' d':Int} (h1:a=a') (h2:b=b') (h3:c=c') (h4:d=d'):Ending.returned (.agg (ziy a b c d))= .returned (.agg (ziy a' b' c' d')):=by rw[h1,h2,h3,h4]
theorem spell_one (n:Int) (w:World) (hm:Marks w) (h0:0≤n) (h1:n<128):
  Calls Tryz.prog 219 #[.int .i64 n] w fun e w'=>e= .returned (.agg (ziy n 0 0 0))∧Below w.heap.size w w':=by
 have HS:=Lib.hid (zer n 1 (by rw[zfY h0 h1];rfl))
 have m1:w.cell? ⟨2,1,none⟩=some (.int .i64 0):=zcw hm 1 (by decide)
 have e1:=or_0 n (by omega)
 have hlt:=hm.lt
 clear hm
 go_enter Tryz.func219,Tryz.ntmps219
 go_wp2_with(first|(go_at_call 199;refine(HS.out _).mono ?_;rintro e w' ⟨rfl,rfl⟩)|(go_at_call 223;refine(zjQ _ _ (by omega) (by omega)).mono ?_;rintro e w' ⟨rfl,rfl⟩))
 refine bodyPost_ret (v:= .agg (ziy n 0 0 0)) (by simp[results,Tryz.results219,go_sem]) rfl ⟨?_,((Below.refl _ _).alloc (Nat.le_refl _) _).alloc (by simp) _⟩
 exact zjJ (by omega) (by omega) (by omega) (by omega)
theorem spell_two (n:Int) (w:World) (hm:Marks w) (h0:128≤n) (h1:n<2048):
  Calls Tryz.prog 219 #[.int .i64 n] w fun e w'=>e= .returned (.agg (ziy (192+n/64) (128+n%64) 0 0))∧Below w.heap.size w w':=by
 have HS:=Lib.hid (zer n 2 (by rw[zjK h0 h1];rfl))
 have m1:w.cell? ⟨2,2,none⟩=some (.int .i64 192):=zcw hm 2 (by decide)
 have e1:=or_192 (n/64) (by omega)
 have hlt:=hm.lt
 clear hm
 go_enter Tryz.func219,Tryz.ntmps219
 go_wp2_with(first|(go_at_call 199;refine(HS.out _).mono ?_;rintro e w' ⟨rfl,rfl⟩)|(go_at_call 223;refine(zjQ _ _ (by omega) (by omega)).mono ?_;rintro e w' ⟨rfl,rfl⟩))
 refine bodyPost_ret (v:= .agg (ziy (192+n/64) (128+n%64) 0 0)) (by simp[results,Tryz.results219,go_sem]) rfl ⟨?_,((Below.refl _ _).alloc (Nat.le_refl _) _).alloc (by simp) _⟩
 exact zjJ (by omega) (by omega) (by omega) (by omega)
theorem spell_three (n:Int) (w:World) (hm:Marks w) (h0:2048≤n) (h1:n<65536) (h2:n<55296∨57343<n):
  Calls Tryz.prog 219 #[.int .i64 n] w fun e w'=>e= .returned (.agg (ziy (224+n/4096) (128+n/64%64) (128+n%64) 0))∧Below w.heap.size w w':=by
 have H2:=Lib.hid h2
 have HS:=Lib.hid (zer n 3 (by rw[zeu h0 h1 h2];rfl))
 have m1:w.cell? ⟨2,3,none⟩=some (.int .i64 224):=zcw hm 3 (by decide)
 have e1:=or_224 (n/64/64) (by omega)
 clear h2
 have hlt:=hm.lt
 clear hm
 go_enter Tryz.func219,Tryz.ntmps219
 go_wp2_with(first|(go_at_call 199;refine(HS.out _).mono ?_;rintro e w' ⟨rfl,rfl⟩)|(go_at_call 223;refine(zjQ _ _ (by omega) (by omega)).mono ?_;rintro e w' ⟨rfl,rfl⟩))
 refine bodyPost_ret (v:= .agg (ziy (224+n/64/64) (128+n/64%64) (128+n%64) 0)) (by simp[results,Tryz.results219,go_sem]) rfl ⟨?_,((Below.refl _ _).alloc (Nat.le_refl _) _).alloc (by simp) _⟩
 exact zjJ (by omega) (by omega) (by omega) (by omega)
theorem spell_four (n:Int) (w:World) (hm:Marks w) (h0:65536≤n) (h1:n≤1114111):
  Calls Tryz.prog 219 #[.int .i64 n] w fun e w'=>e= .returned (.agg (ziy (240+n/262144) (128+n/4096%64) (128+n/64%64) (128+n%64)))∧Below w.heap.size w w':=by
 have HS:=Lib.hid (zer n 4 (by rw[zhk h0 h1];rfl))
 have m1:w.cell? ⟨2,4,none⟩=some (.int .i64 240):=zcw hm 4 (by decide)
 have e1:=or_240 (n/64/64/64) (by omega)
 have hlt:=hm.lt
 clear hm
 go_enter Tryz.func219,Tryz.ntmps219
 go_wp2_with(first|(go_at_call 199;refine(HS.out _).mono ?_;rintro e w' ⟨rfl,rfl⟩)|(go_at_call 223;refine(zjQ _ _ (by omega) (by omega)).mono ?_;rintro e w' ⟨rfl,rfl⟩))
 refine bodyPost_ret (v:= .agg (ziy (240+n/64/64/64) (128+n/64/64%64) (128+n/64%64) (128+n%64))) (by simp[results,Tryz.results219,go_sem]) rfl ⟨?_,((Below.refl _ _).alloc (Nat.le_refl _) _).alloc (by simp) _⟩
 exact zjJ (by omega) (by omega) (by omega) (by omega)
theorem spell_any (n:Int) (w:World) (hm:Marks w):
  Calls Tryz.prog 219 #[.int .i64 n] w fun e w'=>e= .returned (.agg (ints .u8 (spL n)).toArray)∧Below w.heap.size w w':=by
 rcases zcu n with⟨h,h'⟩|⟨h1,h2,h⟩|⟨h1,h2,h⟩|⟨h1,h2,h3,h⟩|⟨h1,h2,h⟩
 ·rw[spL_none h'];exact spell_none n w h
 ·rw[spL_one h1 h2];exact spell_one n w hm h1 h2
 ·rw[spL_two h1 h2];exact spell_two n w hm h1 h2
 ·rw[spL_three h1 h2 h3];exact spell_three n w hm h1 h2 h3
 ·rw[spL_four h1 h2];exact spell_four n w hm h1 h2
theorem length_spL (n:Int):(spL n).length=4:=by
 have:=zcn n
 unfold spL
 rw[List.length_append,List.length_replicate];omega
theorem spL_take (n:Int):(spL n).take (putL n).length=putL n:=by simp[spL]
theorem put_any (n:Int) (w:World) (hm:Marks w):
  Calls Tryz.prog 209 #[.int .i64 n] w fun e w'=>e= .returned (.string (toS (putL n)))∧Below w.heap.size w w':=by
 have hlen:=zcn n
 have HSZ:=Lib.hid (fun W:World=>zlm n W)
 have HSP:=Lib.hid (spell_any n w hm)
 obtain⟨a,b,c,d,h4⟩: ∃a b c d,spL n=[a,b,c,d]:=by
  have:=length_spL n
  match h:spL n,this with
  |[a,b,c,d],_=>exact⟨a,b,c,d,rfl⟩
 have hcv: ∀W:World,(convert 80 9 (.slice (some ⟨W.heap.size,0,none⟩) (putL n).length 4)).run Tryz.prog (W.alloc (.cells #[.int .u8 a,.int .u8 b,.int .u8 c,.int .u8 d] 259))= .ok (.string (toS (putL n))) (W.alloc (.cells #[.int .u8 a,.int .u8 b,.int .u8 c,.int .u8 d] 259)):=fun W=>
  zcV _ (putL n) _ 4 _ rfl (by
   have:=(Lies.whole (w:=W.alloc (.cells #[.int .u8 a,.int .u8 b,.int .u8 c,.int .u8 d] 259)) (b:=W.heap.size) (t:=259) (xs:=[a,b,c,d]) (heap_alloc_new W _)).take (putL n).length
   rw[←h4,spL_take]at this
   exact this)
 have hsl:=fun(g:Nat)=>zlK (P:=Tryz.prog) 259 5 4 Tryz.underlying259 (by kernel_rfl) g 0 (putL n).length (by decide) hlen .i64
 obtain⟨k,hk⟩: ∃k,k=(putL n).length:=⟨_,rfl⟩
 rw[←hk]at hcv hsl HSZ hlen
 obtain⟨S,hS⟩: ∃S,S=toS (putL n):=⟨_,rfl⟩
 rw[←hS]at hcv⊢
 rw[h4]at HSP
 clear hk hS hm h4
 go_enter Tryz.func209,Tryz.ntmps209
 go_wp2_with(first|(go_at_call 199;refine(HSZ.out _).mono ?_;rintro e w' ⟨rfl,rfl⟩)|(go_at_call 219;refine HSP.out.mono ?_;rintro e w1 ⟨rfl,hb⟩;have HB:=Lib.hid hb;clear hb;simp only[ints,List.map_cons,List.map_nil]))
 go_ret
 exact⟨rfl,HB.out.alloc HB.out.size _⟩
theorem accL_bd (c0:Int) (l:List Int) (h:0≤c0∧c0≤255): ∀i,0≤accL c0 l i∧accL c0 l i<256*64^i
 |0=>by show 0≤c0∧c0<256*64^0;omega
 |i+1=>by
  have:=accL_bd c0 l h i
  rw[accL,Int.pow_succ]
  omega
theorem marksub_bd (c:Int) (h:0≤c∧c≤255):0≤c-zft (zbr c)∧c-zft (zbr c)≤255:=by
 unfold zbr
 split
 ·show 0≤c-240∧_≤_;unfold zft;simp;omega
 ·split
  ·show 0≤c-224∧_≤_;unfold zft;simp;omega
  ·split
   ·show 0≤c-192∧_≤_;unfold zft;simp;omega
   ·show 0≤c-0∧_≤_;unfold zft;simp;omega
theorem begin_empty (w:World):
  Calls Tryz.prog 213 #[.string ⟨#[]⟩] w fun e w'=>e= .returned (.tuple #[.int .i64 (-1),.int .i64 0])∧Below w.heap.size w w':=by
 go_enter Tryz.func213,Tryz.ntmps213
 go_wp2
 go_ret2
 exact⟨rfl,Below.refl _ _⟩
theorem znp {s:ByteArray} (h:0<s.size):s.toList.isEmpty=false:=by
 rw[ByteArray.toList_eq]
 cases hd:s.data.toList with
 |nil=>
  have:s.size=s.data.toList.length:=by simp
  rw[hd]at this
  rw[this]at h
  exact absurd h (by decide)
 |cons=>rfl
structure BeginOf (s:ByteArray) (k:Nat):Prop where
 pos:0<s.size
 want:zbr ((strL s).getD 0 0)=k+1
 le:k≤3
theorem beginOf {s:ByteArray} (h:0<s.size): ∃k,BeginOf s k:=by
 have hw:=zhV ((strL s).getD 0 0)
 exact⟨zbr ((strL s).getD 0 0)-1,h,by omega,by omega⟩
theorem BeginOf.call {s:ByteArray} {k:Nat} (h:BeginOf s k) (h0:0<s.size) (W:World) (hM:Marks W):
  Calls Tryz.prog 221 #[.int .u8 ((s[0]'h0).toNat:Int)] W fun e w'=>e= .returned (.int .i64 (k:Int))∧W=w':=by
 have hb:=(zcj s) 0
 have:=wanted_any ((strL s).getD 0 0) W hM hb.1 hb.2
 rw[h.want,Nat.add_sub_cancel,zaz s 0 h.pos]at this
 exact this
theorem begin_short (s:ByteArray) (w:World) (hm:Marks w) (h0:0<s.size) (hs:s.size<zbr ((strL s).getD 0 0)):
  Calls Tryz.prog 213 #[.string s] w fun e w'=>e= .returned (.tuple #[.int .i64 (-1),.int .i64 1])∧Below w.heap.size w w':=by
 obtain⟨k,hk⟩:=beginOf h0
 rw[hk.want]at hs
 have HW:=Lib.hid (fun W (hM:Marks W)=>hk.call h0 W hM)
 have hk4:=hk.le
 have hE:=znp h0
 have HM:=Lib.hid hm
 clear hm hk
 go_enter Tryz.func213,Tryz.ntmps213
 go_wp2_with(go_at_call 221;refine(HW.out _ HM.out).mono ?_;rintro e w' ⟨rfl,rfl⟩)
 go_ret2
 exact⟨rfl,Below.refl _ _⟩
theorem pow64 (j:Nat) (h:j≤3):(64:Int)^j≤262144:=by
 match j,h with
 |0,_=>decide
 |1,_=>decide
 |2,_=>decide
 |3,_=>decide
theorem belowDN (w:World) (n:Nat):Below w.heap.size w (w.drewN n):=zcQ (Below.refl _ _) n
theorem or_low (x y:Int) (h0:0≤x∧x<140737488355328) (h1:0≤y∧y<64):bits .or .i64 (x*64) y=x*64+y:=zgY x y 6 h1.1 (by omega) h0.1 (by omega)
theorem begin_long (s:ByteArray) (w:World) (hm:Marks w) (h0:0<s.size) (hsz:s.size≤9223372036854775807) (hs:zbr ((strL s).getD 0 0)≤s.size):
  Calls Tryz.prog 213 #[.string s] w fun e w'=>e= .returned (.tuple #[.int .i64 (nxL (strL s)).1,.int .i64 ((nxL (strL s)).2:Int)])∧Below w.heap.size w w':=by
 obtain⟨k,hk⟩:=beginOf h0
 have hb0:=(zcj s) 0
 have hms:=marksub_bd _ hb0
 have hacc:=accL_bd ((strL s).getD 0 0-zft (k+1)) (strL s) (by rw[←hk.want];exact hms)
 rw[hk.want]at hs hms
 rw[zaz s 0 h0]at hms
 have HC:Hid (zdn (strL s)=accL ((strL s).getD 0 0-zft (k+1)) (strL s) k):=Lib.hid (by unfold zdn;rw[hk.want,Nat.add_sub_cancel])
 have HG0:Hid ((strL s).getD 0 0=((s[0]'h0).toNat:Int)):=Lib.hid (zaz s 0 h0)
 have HW:=Lib.hid (fun W (hM:Marks W)=>hk.call h0 W hM)
 have hk4:=hk.le
 have hE:=znp h0
 have HM:=Lib.hid hm
 have m1:w.cell? ⟨2,k+1,none⟩=some (.int .i64 (zft (k+1))):=zcw hm (k+1) (by omega)
 have HWANT:=Lib.hid hk.want
 have hmk:0≤zft (k+1)∧zft (k+1)≤240:=by unfold zft;split<;>(try split)<;>(try split)<;>omega
 obtain⟨m,hmm⟩: ∃m,m=zft (k+1):=⟨_,rfl⟩
 rw[←hmm]at m1 hms hacc HC hmk
 have HA:=Lib.hid hacc
 have h1k:(1:Int)+(k:Int)=((k+1:Nat):Int):=by omega
 clear hm hk hb0 hmm hacc
 go_enter Tryz.func213,Tryz.ntmps213
 go_wp2_with(go_at_call 221;refine(HW.out _ HM.out).mono ?_;rintro e w' ⟨rfl,rfl⟩)
 go_quiet (fail)
 go_wp2
 go_loopw[2,4] (fun x i wr=>Below w.heap.size w wr∧ ∃j:Nat,j≤k∧i= .int .i64 ((j+1:Nat):Int)∧x= .int .i64 (accL ((strL s).getD 0 0-m) (strL s) j)) (fun _ i _=>k+1-(intOf i).toNat)
 case atStart=>exact⟨belowDN w _,0,by omega,rfl,by rw[HG0.out];rfl⟩
 case round=>
  obtain⟨hbel,j,hj,rfl,rfl⟩:=hrel
  have HB:=Lib.hid hbel
  clear hbel
  by_cases hlt:j<k
  ·have ha:=HA.out j
   have h64:=pow64 j (by omega)
   have ha2:accL ((strL s).getD 0 0-m) (strL s) j<140737488355328:=by
    omega
   obtain⟨ha1,_⟩:=ha
   have HN:Hid (accL ((strL s).getD 0 0-m) (strL s) (j+1)=accL ((strL s).getD 0 0-m) (strL s) j*64+((s[j+1]'(by omega)).toNat:Int)%64):=Lib.hid (by rw[accL,zaz s (j+1) (by omega)])
   obtain⟨x,hx⟩: ∃x,x=accL ((strL s).getD 0 0-m) (strL s) j:=⟨_,rfl⟩
   rw[←hx]at ha1 ha2 HN⊢
   have hu:=(s[j+1]'(by omega)).toNat_lt
   have e1:=ziq ((s[j+1]'(by omega)).toNat:Int) 6 (by decide) (by omega) (by omega)
   replace e1:bits .and .i64 ((s[j+1]'(by omega)).toNat:Int) 63=((s[j+1]'(by omega)).toNat:Int)%64:=e1
   have e2:=or_low x (((s[j+1]'(by omega)).toNat:Int)%64) ⟨ha1,ha2⟩ (by omega)
   clear hx h64
   go_wp2
   go_roundw
   case rel=>exact⟨HB.out,j+1,by omega,by go_num,by rw[HN.out]⟩
   case measure=>simp[intOf];omega
  ·obtain rfl:j=k:=by omega
   have HML:=Lib.hid (HM.out.below HB.out)
   have HPUT:=Lib.hid (fun(W:World) (hM:Marks W)=>put_any (zdn (strL s)) W hM)
   rw[HC.out]at HPUT
   have hnx:Hid (nxL (strL s)=if putL (zdn (strL s))=(strL s).take (j+1)then(zdn (strL s),j+1)else(-1,1)):=Lib.hid (by
    have hl:=zaX s
    unfold nxL
    rw[HWANT.out,if_neg (by omega),if_neg (by omega)])
   have hcand: -1≤zdn (strL s):=by
    rw[HC.out]
    have:=(HA.out j).1
    omega
   by_cases hp:putL (zdn (strL s))=(strL s).take (j+1)
   ·have HR:Hid (nxL (strL s)=(zdn (strL s),j+1)):=Lib.hid (by rw[hnx.out,if_pos hp])
    have heq:((toS (putL (zdn (strL s)))).toList==(s.extract 0 (j+1)).toList)=true:=by
     rw[zdJ,decide_eq_true_eq,hp]
     exact zcJ (by rw[zbo ((zcj s).take _),zau,List.drop_zero])
    rw[HC.out]at heq HR
    obtain⟨L,hL⟩: ∃L,L=accL ((strL s).getD 0 0-m) (strL s) j:=⟨_,rfl⟩
    rw[←hL]at heq HR HPUT⊢
    obtain⟨T,hT⟩: ∃T,T=toS (putL L):=⟨_,rfl⟩
    rw[←hT]at heq HPUT
    clear hp hnx hL hcand hT
    go_wp2_with fail
    have b0:(0:Int)≤(j:Int)+1:=by omega
    have b1:(j:Int)+1≤(s.size:Int):=by omega
    have b2:((j:Int)+1).toNat=j+1:=by omega
    go_region_held3(fun W=>Below wr.heap.size wr W) (first|exact(Below.refl _ _).drew|exact Below.trans (by assumption) (hb.mono (Below.size (by assumption)))|go_keep)
     (first|(go_at_call 209;refine(HPUT.out _ (HML.out.below ‹_›)).mono ?_;rintro e w' ⟨rfl,hb⟩))
    have HW':=Lib.hid (‹Below wr.heap.size wr _›)
    clear b0 b1 b2 hb
    go_wp2_with fail
    go_ret2
    rw[HR.out]
    exact⟨rfl,HB.out.trans (HW'.out.mono HB.out.size)⟩
   ·have HR:Hid (nxL (strL s)=(-1,1)):=Lib.hid (by rw[hnx.out,if_neg hp])
    have heq:((toS (putL (zdn (strL s)))).toList==(s.extract 0 (j+1)).toList)=false:=by
     rw[zdJ,decide_eq_false_iff_not]
     intro e
     have e2:=(eq_toS (zdh _)).1 e.symm
     rw[zau,List.drop_zero]at e2
     exact hp e2.symm
    rw[HC.out]at heq
    obtain⟨L,hL⟩: ∃L,L=accL ((strL s).getD 0 0-m) (strL s) j:=⟨_,rfl⟩
    rw[←hL]at heq HPUT⊢
    obtain⟨T,hT⟩: ∃T,T=toS (putL L):=⟨_,rfl⟩
    rw[←hT]at heq HPUT
    clear hp hnx hL hcand hT
    go_wp2_with fail
    have b0:(0:Int)≤(j:Int)+1:=by omega
    have b1:(j:Int)+1≤(s.size:Int):=by omega
    have b2:((j:Int)+1).toNat=j+1:=by omega
    go_region_held3(fun W=>Below wr.heap.size wr W) (first|exact(Below.refl _ _).drew|exact Below.trans (by assumption) (hb.mono (Below.size (by assumption)))|go_keep)
     (first|(go_at_call 209;refine(HPUT.out _ (HML.out.below ‹_›)).mono ?_;rintro e w' ⟨rfl,hb⟩))
    have HW':=Lib.hid (‹Below wr.heap.size wr _›)
    clear b0 b1 b2 hb
    go_wp2_with fail
    go_ret2
    rw[HR.out]
    exact⟨rfl,HB.out.trans (HW'.out.mono HB.out.size)⟩
theorem begin_any (s:ByteArray) (w:World) (hm:Marks w) (hs:s.size≤9223372036854775807):
  Calls Tryz.prog 213 #[.string s] w fun e w'=>e= .returned (.tuple #[.int .i64 (nxL (strL s)).1,.int .i64 ((nxL (strL s)).2:Int)])∧Below w.heap.size w w':=by
 have hl:=zaX s
 rcases Nat.eq_zero_or_pos s.size with h0|h0
 ·have e:s=⟨#[]⟩:=zcJ (by rw[List.eq_nil_of_length_eq_zero (hl.trans h0)];rfl)
  subst e
  exact begin_empty w
 ·rcases Nat.lt_or_ge s.size (zbr ((strL s).getD 0 0))with h1|h1
  ·have:nxL (strL s)=(-1,1):=by
    unfold nxL
    rw[if_neg (by omega),if_pos (by omega)]
   rw[this]
   exact begin_short s w hm h0 h1
  ·exact begin_long s w hm h0 hs h1
theorem zin (N:Nat) (w:World) (hN:(N:Int)≤9223372036854775807):
  Calls Tryz.prog 63 #[.int .i64 (N:Int)] w fun e w'=>e= .returned (.string (toS (digL N)))∧Below w.heap.size w w':=by
 have hlen:(digL N).length≤20:=zhw 19 N (by omega)
 have HL:=Lib.hid hlen
 have hm1:((N:Int)== -9223372036854775808)=false:=by rw[beq_eq_false_iff_ne];omega
 have hm2: ¬(N:Int)<0:=by omega
 clear hlen
 go_enter Tryz.func63,Tryz.ntmps63
 go_wp2
 go_loopw[0,3] (fun n v wr=> ∃(m:Nat) (suf:List Int),n= .int .i64 (m:Int)∧m≤N∧v= .string (toS suf)∧Bytes suf∧digL N=digL m++suf∧Below w.heap.size w wr) (fun n _ _=>(intOf n).toNat)
 case atStart=>exact⟨N,[],rfl,Nat.le_refl _,rfl,.of_mem (by simp),by simp,Below.refl _ _⟩
 case round=>
  obtain⟨m,suf,rfl,hmN,rfl,hsuf,hdig,hbel⟩:=hrel
  have HSUF:=Lib.hid hsuf
  have HDIG:=Lib.hid hdig
  have HB:=Lib.hid hbel
  have hsl:suf.length≤20:=by have:=HL.out;rw[hdig,List.length_append]at this;omega
  have hss:(toS suf).size≤20:=by rw[zap];exact hsl
  have hd1:(toS [48+(m:Int)%10]).size=1:=zap _
  have hadd:(toS [48+(m:Int)%10]).size+(toS suf).size≤9223372036854775807:=by omega
  have hcv: ∀W:World,(convert 80 9 (.slice (some ⟨W.heap.size,0,none⟩) 1 1)).run Tryz.prog (W.alloc (.cells #[.int .u8 (48+(m:Int)%10)] 5))= .ok (.string (toS [48+(m:Int)%10])) (W.alloc (.cells #[.int .u8 (48+(m:Int)%10)] 5)):=fun W=>
   zcV _ [48+(m:Int)%10] 1 1 _ rfl (Lies.lit W _ _ _)
  have HJ:Hid (toS [48+(m:Int)%10]++toS suf=toS ((48+(m:Int)%10)::suf)):=Lib.hid (by
   rw[zcd (.of_mem (by intro x hx;simp at hx;omega)) hsuf];rfl)
  have HSUF2:Hid (Bytes ((48+(m:Int)%10)::suf)):=Lib.hid (Bytes.append (l:=[48+(m:Int)%10]) (.of_mem (by intro x hx;simp at hx;omega)) hsuf)
  obtain⟨T,hT⟩: ∃T,T=toS [48+(m:Int)%10]:=⟨_,rfl⟩
  obtain⟨U,hU⟩: ∃U,U=toS suf:=⟨_,rfl⟩
  rw[←hT]at hcv hadd HJ
  rw[←hU]at hadd HJ⊢
  by_cases h10:m<10
  ·have hq:((m:Int)/10==0)=true:=by rw[beq_iff_eq];omega
   have HR:Hid (toS (digL N)=T++U):=Lib.hid (by
    rw[HJ.out,HDIG.out,zfc h10]
    congr 1
    show(48+(m:Int))::suf=_
    congr 1;omega)
   clear hsuf hdig hbel hT hU hss hd1
   go_wp2
   go_ret
   rw[HR.out]
   exact⟨rfl,HB.out.trans ((zaf wr _).mono HB.out.size)⟩
  ·have hq:((m:Int)/10==0)=false:=by rw[beq_eq_false_iff_ne];omega
   have HR:Hid (digL N=digL (m/10)++(48+(m:Int)%10)::suf):=Lib.hid (by
    rw[HDIG.out,zfx h10,List.append_assoc]
    rfl)
   clear hsuf hdig hbel hT hU hss hd1
   go_wp2
   go_roundw
   case rel=>exact⟨m/10,(48+(m:Int)%10)::suf,by congr 1,by omega,by rw[←HJ.out],HSUF2.out,HR.out,HB.out.trans ((zaf wr _).mono HB.out.size)⟩
   case measure=>simp[intOf];omega
theorem zju: ∀(l:List Int),runL (l.take (runL l))=runL l
 |[]=>rfl
 |c::r=>by
  by_cases h:isD c=true
  ·have e:runL (c::r)=runL r+1:=by rw[runL,if_pos h]
   rw[e,List.take_succ_cons,runL,if_pos h,zju r]
  ·have e:runL (c::r)=0:=by rw[runL,if_neg h]
   rw[e];rfl
theorem getD_take0 (r:List Int) (k:Nat) (h:0<k):(r.take k).getD 0 0=r.getD 0 0:=by
 cases r with
 |nil=>simp
 |cons a t=>obtain⟨j,rfl⟩: ∃j,k=j+1:=⟨k-1,by omega⟩;rfl
theorem zgf {l:List Int} (h:zat l≠0):zbe (l.take (zat l))=true:=by
 have hle:=zef l
 unfold zbe
 rw[decide_eq_true_eq]
 have hlen:(l.take (zat l)).length=zat l:=by rw[List.length_take];omega
 refine⟨fun e=>by rw[e]at hlen;exact h hlen.symm,?_⟩
 rw[hlen]
 cases l with
 |nil=>rfl
 |cons c r=>
  have e:zat (c::r)=if c=45 then(if 49≤r.getD 0 0∧r.getD 0 0≤57 then runL r+1 else 0)else if c=48 then 1 else runL (c::r):=by rw[zat]
  by_cases h45:c=45
  ·subst h45
   by_cases hd:49≤r.getD 0 0∧r.getD 0 0≤57
   ·rw[if_pos rfl,if_pos hd]at e
    rw[e,List.take_succ_cons,zat,if_pos rfl,getD_take0 r _ (by
     cases r with
     |nil=>simp at hd
     |cons a t=>rw[List.getD_cons_zero]at hd;rw[runL,if_pos (isD_iff.2 (by omega))];omega),if_pos hd,zju]
   ·rw[if_pos rfl,if_neg hd]at e
    exact absurd e h
  ·rw[if_neg h45]at e
   by_cases h48:c=48
   ·subst h48
    rw[if_pos rfl]at e
    rw[e];rfl
   ·rw[if_neg h48]at e
    have hr:runL (c::r)≠0:=by rw[←e];exact h
    obtain⟨j,hj⟩: ∃j,runL (c::r)=j+1:=⟨runL (c::r)-1,by omega⟩
    have ht:=zju (c::r)
    rw[e]
    rw[hj]at ht⊢
    rw[List.take_succ_cons]at ht⊢
    rw[zat,if_neg h45,if_neg h48]
    exact ht
def zdK (s:ByteArray):Bool:=decide ((strL s).getD 0 0=45)
theorem hasDash_any (s:ByteArray) (w:World) (hs:s.size≤9223372036854775807):
  Calls Tryz.prog 224 #[.string s,.string ⟨#[45]⟩] w fun e w'=>e= .returned (.bool (zdK s))∧w=w':=by
 have hlen:=zaX s
 by_cases h1:1≤s.size
 ·have hge:(1:Int)≤(s.size:Int):=by omega
  have he:((s.extract 0 1).toList==[45])=zdK s:=by
   rw[show([45]:List UInt8)=(⟨#[45]⟩:ByteArray).toList by rw[ByteArray.toList_eq],zdJ,zdK]
   have:s.extract 0 1=⟨#[45]⟩↔(strL s).getD 0 0=45:=by
    constructor
    ·intro h
     have:=congrArg strL h
     rw[zau]at this
     cases hl:strL s with
     |nil=>rw[hl]at hlen;simp at hlen;omega
     |cons c r=>
      rw[hl]at this
      simpa[strL]using this
    ·intro h
     apply zcJ
     rw[zau]
     cases hl:strL s with
     |nil=>rw[hl]at hlen;simp at hlen;omega
     |cons c r=>
      rw[hl]at h
      rw[List.getD_cons_zero]at h
      subst h
      simp[strL]
   exact decide_eq_decide.2 this
  obtain⟨B,hB⟩: ∃B,B=zdK s:=⟨_,rfl⟩
  rw[←hB]at he⊢
  clear hB hlen
  go_enter Tryz.func224,Tryz.ntmps224
  go_wp2
  go_ret
  exact⟨rfl,rfl⟩
 ·have hge: ¬(1:Int)≤(s.size:Int):=by omega
  have hd:Hid (zdK s=false):=Lib.hid (by
   unfold zdK
   rw[List.eq_nil_of_length_eq_zero (hlen.trans (by omega))];rfl)
  clear hlen
  go_enter Tryz.func224,Tryz.ntmps224
  go_wp2
  go_ret
  rw[hd.out]
  exact⟨rfl,rfl⟩
def zck (s:ByteArray):ByteArray:=if zdK s=true then s.extract 1 s.size else s
theorem dash_size {s:ByteArray} (h:zdK s=true):1≤s.size:=by
 unfold zdK at h
 rw[decide_eq_true_eq]at h
 rw[←zaX]
 cases hl:strL s with
 |nil=>rw[hl]at h;simp at h
 |cons c r=>simp
theorem cutDash_any (s:ByteArray) (w:World) (hs:s.size≤9223372036854775807):
  Calls Tryz.prog 220 #[.string s,.string ⟨#[45]⟩] w fun e w'=>e= .returned (.tuple #[.string (zck s),.bool (zdK s)])∧w=w':=by
 have HP:=Lib.hid (hasDash_any s w hs)
 cases hd:zdK s with
 |true=>
  rw[hd]at HP
  have hge:(1:Int)≤(s.size:Int):=by have:=dash_size hd;omega
  have HR:Hid (zck s=s.extract 1 s.size):=Lib.hid (by unfold zck;rw[if_pos hd])
  clear hd
  go_enter Tryz.func220,Tryz.ntmps220
  go_wp2_with(go_at_call 224;refine HP.out.mono ?_;rintro e w' ⟨rfl,rfl⟩)
  go_ret2
  rw[HR.out]
  exact⟨rfl,rfl⟩
 |false=>
  rw[hd]at HP
  have HR:Hid (zck s=s):=Lib.hid (by unfold zck;rw[if_neg (by rw[hd];decide)])
  clear hd
  go_enter Tryz.func220,Tryz.ntmps220
  go_wp2_with(go_at_call 224;refine HP.out.mono ?_;rintro e w' ⟨rfl,rfl⟩)
  go_ret2
  rw[HR.out]
  exact⟨rfl,rfl⟩
theorem cutDash2_any (s:ByteArray) (w:World) (hs:s.size≤9223372036854775807):
  Calls Tryz.prog 211 #[.string s,.string ⟨#[45]⟩] w fun e w'=>e= .returned (.tuple #[.string (zck s),.bool (zdK s)])∧w=w':=by
 have HP:=Lib.hid (cutDash_any s w hs)
 go_enter Tryz.func211,Tryz.ntmps211
 go_wp2_with(go_at_call 220;refine HP.out.mono ?_;rintro e w' ⟨rfl,rfl⟩)
 go_ret2
 exact⟨rfl,rfl⟩
theorem parts_any (s:ByteArray) (w:World) (hs:s.size≤9223372036854775807):
  Calls Tryz.prog 195 #[.string s] w fun e w'=>e= .returned (.tuple #[.bool (zdK s),.string (zck s)])∧w=w':=by
 have HP:=Lib.hid (cutDash2_any s w hs)
 go_enter Tryz.func195,Tryz.ntmps195
 go_wp2_with(go_at_call 211;refine HP.out.mono ?_;rintro e w' ⟨rfl,rfl⟩)
 go_ret2
 exact⟨rfl,rfl⟩
theorem runL_eq: ∀{l:List Int} {k:Nat},k≤l.length→(∀j,j<k→48≤l.getD j 0∧l.getD j 0≤57)→(k<l.length→ ¬(48≤l.getD k 0∧l.getD k 0≤57))→runL l=k
 |[],k,hk,_,_=>by simp at hk;subst hk;rfl
 |c::r,0,_,_,h=>by
  have:=h (by simp)
  rw[List.getD_cons_zero]at this
  rw[runL,if_neg (by rw[isD_iff];exact this)]
 |c::r,k+1,hk,ha,h=>by
  have h0:=ha 0 (by omega)
  rw[List.getD_cons_zero]at h0
  rw[runL,if_pos (isD_iff.2 h0),runL_eq (l:=r) (k:=k) (by simpa using hk) (fun j hj=>by
   have:=ha (j+1) (by omega)
   rwa [List.getD_cons_succ]at this) (fun hlt=>by
   have:=h (by simpa using hlt)
   rwa [List.getD_cons_succ]at this)]
theorem zko (s:ByteArray) (w:World) (hs:s.size≤9223372036854775807):
  Calls Tryz.prog 196 #[.string s] w fun e w'=>e= .returned (.int .i64 (runL (strL s):Int))∧w=w':=by
 have HL:=Lib.hid (zaX s)
 go_enter Tryz.func196,Tryz.ntmps196
 go_wp2
 go_loop [6] (fun i=> ∃k:Nat,k≤s.size∧i= .int .i64 (k:Int)∧ ∀j,j<k→48≤(strL s).getD j 0∧(strL s).getD j 0≤57) (fun i=>s.size-(intOf i).toNat)
 case atStart=>exact⟨0,by omega,rfl,fun j hj=>by omega⟩
 case round=>
  obtain⟨k,hk,rfl,hall⟩:=hrel
  have HA:=Lib.hid hall
  clear hall
  by_cases hlt:k<s.size
  ·have HG:=Lib.hid (zaz s k hlt)
   by_cases hd:48≤(strL s).getD k 0∧(strL s).getD k 0≤57
   ·obtain⟨hd1,hd2⟩:=hd
    have HD:=Lib.hid (And.intro hd1 hd2)
    rw[HG.out]at hd1 hd2
    go_wp2
    go_round
    case rel=>exact⟨k+1,by omega,by go_num,fun j hj=>by
     rcases Nat.lt_or_ge j k with h|h
     ·exact HA.out j h
     ·obtain rfl:j=k:=by omega
      exact HD.out⟩
    case measure=>simp[intOf];omega
   ·have HR:Hid (runL (strL s)=k):=Lib.hid (runL_eq (by rw[HL.out];exact hk) HA.out (fun _=>hd))
    rw[HG.out]at hd
    by_cases hd1:((s[k]'hlt).toNat:Int)<48
    ·clear hd
     go_wp2
     go_ret
     rw[HR.out]
     exact⟨rfl,rfl⟩
    ·have hd2:57<((s[k]'hlt).toNat:Int):=by omega
     clear hd
     go_wp2
     go_ret
     rw[HR.out]
     exact⟨rfl,rfl⟩
  ·obtain rfl:k=s.size:=by omega
   have HR:Hid (runL (strL s)=s.size):=Lib.hid (runL_eq (by rw[HL.out];exact Nat.le_refl _) HA.out (fun h=>by rw[HL.out]at h;omega))
   go_wp2
   go_ret
   rw[HR.out]
   exact⟨rfl,rfl⟩
theorem restL (s:ByteArray):strL (zck s)=if zdK s=true then(strL s).drop 1 else strL s:=by
 unfold zck
 split
 ·rw[zau,List.take_of_length_le (by rw[zaX];exact Nat.le_refl _)]
 ·rfl
theorem zlq (s:ByteArray):(zck s).size≤s.size:=by
 rw[←zaX,←zaX,restL]
 split
 ·rw[List.length_drop];omega
 ·exact Nat.le_refl _
theorem runL_first {l:List Int} (h:0<runL l):48≤l.getD 0 0∧l.getD 0 0≤57:=isD_iff.1 (zlo l 0 h)
theorem runL_none {l:List Int} (h:runL l=0): ¬(48≤l.getD 0 0∧l.getD 0 0≤57):=fun hc=>by
 cases l with
 |nil=>simp at hc
 |cons c r=>rw[List.getD_cons_zero]at hc;rw[runL,if_pos (isD_iff.2 hc)]at h;omega
theorem dash_cons {s:ByteArray} (h:zdK s=true):strL s=45::(strL s).drop 1:=by
 unfold zdK at h
 rw[decide_eq_true_eq]at h
 cases hl:strL s with
 |nil=>rw[hl]at h;simp at h
 |cons c r=>rw[hl]at h;rw[List.getD_cons_zero]at h;rw[h];rfl
theorem lead_dash {s:ByteArray} (h:zdK s=true):zat (strL s)=if 0<runL (strL (zck s))∧(strL (zck s)).getD 0 0≠48 then runL (strL (zck s))+1 else 0:=by
 rw[restL,if_pos h,dash_cons h,List.drop_succ_cons,List.drop_zero,zat,if_pos rfl]
 obtain⟨r,hr⟩: ∃r,r=(strL s).drop 1:=⟨_,rfl⟩
 rw[←hr]
 by_cases h0:0<runL r
 ·have:=runL_first h0
  by_cases h48:r.getD 0 0=48
  ·rw[if_neg (by omega),if_neg (by omega)]
  ·rw[if_pos (by omega),if_pos ⟨h0,h48⟩]
 ·have:=runL_none (l:=r) (by omega)
  rw[if_neg (by omega),if_neg (by omega)]
theorem lead_plain {s:ByteArray} (h:zdK s=false):zat (strL s)=if 0<runL (strL (zck s))∧(strL (zck s)).getD 0 0=48 then 1 else runL (strL (zck s)):=by
 rw[show strL (zck s)=strL s by rw[restL,h];rfl]
 unfold zdK at h
 rw[decide_eq_false_iff_not]at h
 obtain⟨l,hl⟩: ∃l,l=strL s:=⟨_,rfl⟩
 rw[←hl]at h⊢
 cases l with
 |nil=>rfl
 |cons c r=>
  rw[List.getD_cons_zero]at h⊢
  rw[zat,if_neg h]
  by_cases h48:c=48
  ·have:0<runL (c::r):=by rw[runL,if_pos (isD_iff.2 (by omega))];omega
   rw[if_pos h48,if_pos ⟨this,h48⟩]
  ·rw[if_neg h48,if_neg (by omega)]
theorem zkh (s:ByteArray) (w:World) (hs:s.size≤9223372036854775806):
  Calls Tryz.prog 172 #[.string s] w fun e w'=>e= .returned (.int .i64 (zat (strL s):Int))∧Below w.heap.size w w':=by
 have hrs:=zlq s
 have HP:=Lib.hid (parts_any s w (by omega))
 have HC:=Lib.hid (zko (zck s) w (by omega))
 have HL:Hid (zdK s=true→zat (strL s)=if 0<runL (strL (zck s))∧(strL (zck s)).getD 0 0≠48 then runL (strL (zck s))+1 else 0):=Lib.hid lead_dash
 have HL2:Hid (zdK s=false→zat (strL s)=if 0<runL (strL (zck s))∧(strL (zck s)).getD 0 0=48 then 1 else runL (strL (zck s))):=Lib.hid lead_plain
 have hrl:=zmz (strL (zck s))
 rw[zaX]at hrl
 obtain⟨T,hT⟩: ∃T,T=zck s:=⟨_,rfl⟩
 obtain⟨m,hm⟩: ∃m,m=zat (strL s):=⟨_,rfl⟩
 rw[←hT]at HP HC HL HL2 hrs hrl
 rw[←hm]at HL HL2⊢
 have HG:Hid (∀h:0<T.size,(strL T).getD 0 0=((T[0]'h).toNat:Int)):=Lib.hid (fun h=>zaz T 0 h)
 obtain⟨n,hn⟩: ∃n,n=runL (strL T):=⟨_,rfl⟩
 rw[←hn]at HC HL HL2 hrl
 clear hm hT hn
 by_cases h0:0<n
 ·have hz:0<T.size:=by omega
  have hb:((n:Int)==0)=false:=by rw[beq_eq_false_iff_ne];omega
  by_cases h48:((T[0]'hz).toNat:Int)=48
  ·have hc:(((T[0]'hz).toNat:Int)==48)=true:=by rw[beq_iff_eq];exact h48
   cases hd:zdK s with
   |true=>
    rw[hd]at HP
    have HR:Hid (m=0):=Lib.hid (by rw[HL.out hd,if_neg (by rw[HG.out hz];omega)])
    clear hd h48
    go_enter Tryz.func172,Tryz.ntmps172
    go_wp2_with(first
     |(go_at_call 195;refine HP.out.mono ?_;rintro e w' ⟨rfl,rfl⟩)
     |(go_at_call 196;refine HC.out.mono ?_;rintro e w' ⟨rfl,rfl⟩))
    go_ret
    rw[HR.out]
    exact⟨rfl,Below.refl _ _⟩
   |false=>
    rw[hd]at HP
    have HR:Hid (m=1):=Lib.hid (by rw[HL2.out hd,if_pos ⟨h0,by rw[HG.out hz];exact h48⟩])
    clear hd h48
    go_enter Tryz.func172,Tryz.ntmps172
    go_wp2_with(first
     |(go_at_call 195;refine HP.out.mono ?_;rintro e w' ⟨rfl,rfl⟩)
     |(go_at_call 196;refine HC.out.mono ?_;rintro e w' ⟨rfl,rfl⟩))
    go_ret
    rw[HR.out]
    exact⟨rfl,Below.refl _ _⟩
  ·have hc:(((T[0]'hz).toNat:Int)==48)=false:=by rw[beq_eq_false_iff_ne];exact h48
   cases hd:zdK s with
   |true=>
    rw[hd]at HP
    have HR:Hid (m=n+1):=Lib.hid (by rw[HL.out hd,if_pos ⟨h0,by rw[HG.out hz];exact h48⟩])
    clear hd h48
    go_enter Tryz.func172,Tryz.ntmps172
    go_wp2_with(first
     |(go_at_call 195;refine HP.out.mono ?_;rintro e w' ⟨rfl,rfl⟩)
     |(go_at_call 196;refine HC.out.mono ?_;rintro e w' ⟨rfl,rfl⟩))
    go_ret
    rw[HR.out]
    exact⟨ziW (by omega),Below.refl _ _⟩
   |false=>
    rw[hd]at HP
    have HR:Hid (m=n):=Lib.hid (by rw[HL2.out hd,if_neg (by rw[HG.out hz];omega)])
    clear hd h48
    go_enter Tryz.func172,Tryz.ntmps172
    go_wp2_with(first
     |(go_at_call 195;refine HP.out.mono ?_;rintro e w' ⟨rfl,rfl⟩)
     |(go_at_call 196;refine HC.out.mono ?_;rintro e w' ⟨rfl,rfl⟩))
    go_ret
    rw[HR.out]
    exact⟨rfl,Below.refl _ _⟩
 ·obtain rfl:n=0:=by omega
  have HR:Hid (m=0):=Lib.hid (by
   cases hd:zdK s with
   |true=>rw[HL.out hd,if_neg (by omega)]
   |false=>rw[HL2.out hd,if_neg (by omega)])
  clear h0
  go_enter Tryz.func172,Tryz.ntmps172
  go_wp2_with(first
   |(go_at_call 195;refine HP.out.mono ?_;rintro e w' ⟨rfl,rfl⟩)
   |(go_at_call 196;refine HC.out.mono ?_;rintro e w' ⟨rfl,rfl⟩))
  go_ret
  rw[HR.out]
  exact⟨rfl,Below.refl _ _⟩
theorem take_val {l:List Int} {k:Nat} (hk:k<l.length):valL (l.take (k+1))=valL (l.take k)*10+(l.getD k 0-48).toNat:=by
 rw[List.take_succ_eq_append_getElem hk,zeo,List.getD_eq_getElem?_getD,List.getElem?_eq_getElem hk];rfl
def numS (s:ByteArray):Int:=if zdK s=true then-(valL (strL (zck s)):Int)else(valL (strL (zck s)):Int)
def fitS (s:ByteArray):Bool:=decide (-9223372036854775808≤numS s∧numS s≤9223372036854775807)
theorem numS_num (s:ByteArray):numS s=numL (strL s):=by
 unfold numS numL
 rw[restL]
 unfold zdK
 by_cases h:(strL s).getD 0 0=45
 ·rw[decide_eq_true h,if_pos rfl,if_pos rfl,if_pos h]
 ·rw[decide_eq_false h,if_neg (by decide),if_neg (by decide),if_neg h]
theorem tdiv_min (d:Int) (h0:0≤d) (h1:d≤9):(-9223372036854775808+d).tdiv 10= -((9223372036854775808-d)/10):=by
 rw[show-9223372036854775808+d= -(9223372036854775808-d)by omega,Int.neg_tdiv,Int.tdiv_eq_ediv_of_nonneg (by omega)]
theorem reckon_any (s:ByteArray) (w:World) (hs:s.size≤9223372036854775807) (hD:AllD (strL (zck s))):
  Calls Tryz.prog 197 #[.string s] w fun e w'=>e= .returned (.tuple #[.int .i64 (if fitS s=true then numS s else 0),.bool (fitS s)])∧w=w':=by
 have hrs:=zlq s
 have HP:=Lib.hid (parts_any s w hs)
 have HV:Hid (numS s=if zdK s=true then-(valL (strL (zck s)):Int)else(valL (strL (zck s)):Int)):=Lib.hid rfl
 have HF:Hid (fitS s=decide (-9223372036854775808≤numS s∧numS s≤9223372036854775807)):=Lib.hid rfl
 obtain⟨T,hT⟩: ∃T,T=zck s:=⟨_,rfl⟩
 obtain⟨D,hDD⟩: ∃D,D=zdK s:=⟨_,rfl⟩
 obtain⟨N,hN⟩: ∃N,N=numS s:=⟨_,rfl⟩
 obtain⟨F,hF⟩: ∃F,F=fitS s:=⟨_,rfl⟩
 rw[←hT]at HP HV hD hrs
 rw[←hDD]at HP HV
 rw[←hN]at HV HF⊢
 rw[←hF]at HF⊢
 have HX:Hid ((F=true→(if F=true then N else 0)=N)∧(F=false→(if F=true then N else 0)=0)):=Lib.hid ⟨fun h=>if_pos h,fun h=>if_neg (by rw[h];decide)⟩
 obtain⟨X,hX⟩: ∃X,X=if F=true then N else 0:=⟨_,rfl⟩
 rw[←hX]at HX⊢
 have HL:=Lib.hid (zaX T)
 have hts:T.size≤9223372036854775807:=by omega
 have HD:=Lib.hid hD
 clear hT hDD hN hF hD hrs hX
 go_enter Tryz.func197,Tryz.ntmps197
 go_wp2_with(go_at_call 195;refine HP.out.mono ?_;rintro e w' ⟨rfl,rfl⟩)
 go_loop [2,15] (fun n i=> ∃k v:Nat,k≤T.size∧i= .int .i64 (k:Int)∧n= .int .i64 (-(v:Int))∧v≤9223372036854775808∧v=valL ((strL T).take k)) (fun _ i=>T.size-(intOf i).toNat)
 case atStart=>exact⟨0,0,by omega,rfl,rfl,by omega,rfl⟩
 case round=>
  obtain⟨k,v,hk,rfl,rfl,hv,hval⟩:=hrel
  have HVAL:=Lib.hid hval
  clear hval
  by_cases hlt:k<T.size
  ·have HG:=Lib.hid (zaz T k hlt)
   have hkl:k<(strL T).length:=by rw[HL.out];exact hlt
   have hdg:=HD.out.at k hkl
   have HN:=Lib.hid (take_val hkl)
   have hNle:=zfn (strL T) (k+1)
   rw[HN.out,←HVAL.out]at hNle
   obtain⟨d,hd⟩: ∃d:Nat,(strL T).getD k 0=48+(d:Int):=⟨((strL T).getD k 0-48).toNat,by omega⟩
   rw[hd,show(48+(d:Int)-48).toNat=d by omega]at hNle
   have HN2:Hid (valL ((strL T).take (k+1))=v*10+d):=Lib.hid (by rw[HN.out,hd,←HVAL.out];omega)
   have hc:((T[k]'hlt).toNat:Int)=48+(d:Int):=by rw[←HG.out];exact hd
   have hd9:d≤9:=by omega
   have ht:=tdiv_min (d:Int) (by omega) (by omega)
   have HNLE:=Lib.hid hNle
   have hsub:(48+(d:Int))-48=(d:Int):=by omega
   clear hd hdg hkl HN hNle
   by_cases hover:v*10+d≤9223372036854775808
   ·have hno: ¬(-(v:Int))< -((9223372036854775808-(d:Int))/10):=by omega
    go_wp2
    go_round
    case rel=>exact⟨k+1,v*10+d,by omega,by go_num,by congr 1;omega,hover,HN2.out.symm⟩
    case measure=>simp[intOf];omega
   ·have hyes:(-(v:Int))< -((9223372036854775808-(d:Int))/10):=by omega
    have HR:Hid (F=false):=Lib.hid (by
     rw[HF.out,HV.out,decide_eq_false_iff_not]
     have:=HNLE.out
     split<;>omega)
    go_wp2
    go_ret2
    rw[HX.out.2 HR.out,HR.out]
    exact⟨rfl,rfl⟩
  ·obtain rfl:k=T.size:=by omega
   have HVV:Hid (v=valL (strL T)):=Lib.hid (by rw[HVAL.out,List.take_of_length_le (by rw[HL.out];exact Nat.le_refl _)])
   cases D with
   |true=>
    have HR:Hid (F=true∧N= -(v:Int)):=Lib.hid (by
     have h:=HV.out
     rw[if_pos rfl,←HVV.out]at h
     exact⟨by rw[HF.out,decide_eq_true_eq];omega,h⟩)
    go_wp2
    go_ret2
    rw[HX.out.1 HR.out.1,HR.out.1,HR.out.2]
    exact⟨rfl,rfl⟩
   |false=>
    have h:=HV.out
    rw[if_neg (by decide),←HVV.out]at h
    by_cases hm:v=9223372036854775808
    ·have HR:Hid (F=false):=Lib.hid (by rw[HF.out,decide_eq_false_iff_not];omega)
     have hb:((-(v:Int))== -9223372036854775808)=true:=by rw[beq_iff_eq];omega
     clear h hm
     go_wp2
     go_ret2
     rw[HX.out.2 HR.out,HR.out]
     exact⟨rfl,rfl⟩
    ·have HR:Hid (F=true∧N=(v:Int)):=Lib.hid (by exact⟨by rw[HF.out,decide_eq_true_eq];omega,h⟩)
     have hb:((-(v:Int))== -9223372036854775808)=false:=by rw[beq_eq_false_iff_ne];omega
     have hv2:(v:Int)≤9223372036854775807:=by omega
     clear h hm
     go_wp2
     go_ret2
     rw[HX.out.1 HR.out.1,HR.out.1,HR.out.2]
     exact⟨rfl,rfl⟩
end Go.Proofs.YtjfgmgkhinehaaaGreatDoor
