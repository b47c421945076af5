
import Derived.Shelf.Strings.Builder1
import Derived.Shelf.Strings.Builder2
import Derived.Shelf.Strings.OnBuilder
import Derived.Shelf.Small.Strs
import Derived.Shelf.Small.Wraps
import Derived.Shelf.LaysM
import Derived.Shelf.Strconv.Clone
import Derived.Shelf.Strings.Search1
import Derived.Shelf.Strings.Search2
import Derived.Shelf.Strings.Search3
import Derived.Shelf.Strings.Count
import Derived.Shelf.Strings.Shaped
import Derived.Shelf.Strings.Prefix
import Derived.Shelf.Strings.Split
import Derived.Shelf.Unicode.DecodeSlow
import Derived.Shelf.Unicode.DecodeAny
import Derived.Shelf.Slices.Turned
import Derived.Shelf.Slices.Equal
import Derived.Ground.Names2Prog
import Derived.Shelf.Slices.Clone
import Derived.Shelf.Slices.Empties2
import Derived.Ground.SlgnProg
import Derived.Shelf.SlicesE.Clone
import Derived.Test.YtceddodfddlncaaGreatDoorProg
set_option maxRecDepth 100000
set_option maxHeartbeats 16000000
set_option linter.all false
namespace Go.Proofs
open Go.Shelf Tryz
def ef:=@underlying46
def ey:=@underlying9
def eI:=@congrArg
def fd:=@underlying5
def fT:=@underlying3
def fV:=@underlying4
def gE:=@underlying61
def gS:=@Tryz.zeroValue4
def gV:=@Tryz.zeroValue3
def ii:=@Tryz.zeroValue9
def iD:=@underlying124
def iE:=@underlying0
def iG:=@Tryz.sizeOf4
def iO:=@Tryz.sizeOf3
def iQ:=@Tryz.zeroValue0
def iT:=@underlying118
def iV:=@Tryz.sizeOf9
def iY:=@Tryz.isAgg4
def i6:=@Tryz.isAgg3
def jl:=@Tryz.isAgg9
def jE:=@Tryz.sizeOf0
def jL:=@Tryz.isAgg0
def jZ:=@Tryz.zeroValue5
def kw:=@Tryz.zeroValue61
def kS:=@Tryz.sizeOf5
def kW:=@underlying85
def ld:=@Tryz.zeroValue46
def ll:=@Tryz.sizeOf61
def lv:=@Tryz.isAgg5
def lN:=@Tryz.isAgg61
def lT:=@underlying158
def lW:=@underlying120
def l7:=@Tryz.zeroValue120
def l8:=@Tryz.zeroValue158
def mg:=@Tryz.zeroValue118
def mp:=@Tryz.sizeOf46
def mA:=@Tryz.isAgg46
def Tryz.lays165_ren:Go.Shelf.Ren:=⟨fun|165=>78|240=>110|241=>111|276=>143|277=>144|n=>n,fun|70=>118|3=>3|0=>0|4=>4|9=>9|20=>20|72=>120|37=>46|164=>85|5=>5|n=>n,fun|n=>n⟩
theorem Tryz.lays165:Go.Proofs.Lays.n165 prog Tryz.lays165_ren:={
 mixed:=by kernel_rfl
 f165:=func78.trans (eI some (by kernel_rfl))
 f240:=func110.trans (eI some (by kernel_rfl))
 f241:=func111.trans (eI some (by kernel_rfl))
 f276:=func143.trans (eI some (by kernel_rfl))
 f277:=func144.trans (eI some (by kernel_rfl))
 t0:=iE
 a0:=jL
 z0:=jE
 v0:=iQ
 t3:=fT
 a3:=i6
 z3:=iO
 v3:=gV
 t4:=fV
 a4:=iY
 z4:=iG
 v4:=gS
 t9:=ey
 a9:=jl
 z9:=iV
 v9:=ii
 t20:=underlying20
 a20:=Tryz.isAgg20
 z20:=Tryz.sizeOf20
 v20:=Tryz.zeroValue20
 t37:=ef
 a37:=mA
 z37:=mp
 v37:=ld
 t70:=iT
 a70:=Tryz.isAgg118
 z70:=Tryz.sizeOf118
 v70:=mg
 t72:=lW
 a72:=Tryz.isAgg120
 z72:=Tryz.sizeOf120
 v72:=l7
 t164:=kW
 a164:=Tryz.isAgg85
 z164:=Tryz.sizeOf85
 v164:=Tryz.zeroValue85}
theorem Tryz.Builder_Extra_165:Builder.Extra prog Tryz.lays165_ren:={
 sizeBuilder:=by kernel_rfl
 liesBuilder:=by kernel_rfl
 t5:=fd
 a5:=lv
 z5:=kS
 v5:=jZ
 infoByte:=by kernel_rfl
 cellsByte:=by kernel_rfl
 sizeByte:=by kernel_rfl
 neB5:=by decide}
open Go.RowKit in
theorem Tryz.Builder_Grow_fresh (B b n:Nat) (w:World) (F:B≤b) (D:w.heap[b]? =some (.cells #[.pointer none,.slice none 0 0] 120 (0,0))) (E:B≤w.heap.size) (q:n≤281474976710656):
  Calls prog 78 #[.pointer (some ⟨b,0,none⟩),.int .i64 n] w fun e w'=>e= .returned (.tuple #[])∧(Lib.BuilderAt 120 5 B b (.pointer (some ⟨b,0,none⟩)) [] w'∧Below B w w'):=Any.Builder_Grow_fresh Tryz.lays165 Tryz.Builder_Extra_165 B b n w F D E q
def Tryz.lays169_ren:Go.Shelf.Ren:=⟨fun|169=>83|n=>n,fun|70=>118|9=>9|0=>0|72=>120|37=>46|127=>158|3=>3|5=>5|n=>n,fun|n=>n⟩
theorem Tryz.lays169:Go.Proofs.Lays.n169 prog Tryz.lays169_ren:={
 mixed:=by kernel_rfl
 f169:=func83.trans (eI some (by kernel_rfl))
 t0:=iE
 a0:=jL
 z0:=jE
 v0:=iQ
 t3:=fT
 a3:=i6
 z3:=iO
 v3:=gV
 t9:=ey
 a9:=jl
 z9:=iV
 v9:=ii
 t37:=ef
 a37:=mA
 z37:=mp
 v37:=ld
 t70:=iT
 a70:=Tryz.isAgg118
 z70:=Tryz.sizeOf118
 v70:=mg
 t72:=lW
 a72:=Tryz.isAgg120
 z72:=Tryz.sizeOf120
 v72:=l7
 t127:=lT
 a127:=Tryz.isAgg158
 z127:=Tryz.sizeOf158
 v127:=l8}
theorem Tryz.Builder_Extra_169:Builder.Extra prog Tryz.lays169_ren:={
 sizeBuilder:=by kernel_rfl
 liesBuilder:=by kernel_rfl
 t5:=fd
 a5:=lv
 z5:=kS
 v5:=jZ
 infoByte:=by kernel_rfl
 cellsByte:=by kernel_rfl
 sizeByte:=by kernel_rfl
 neB5:=by decide}
open Go.RowKit in
theorem Tryz.Builder_String_any (B b:Nat) (l:List UInt8) (w:World) (h:Lib.IsBuilder 120 5 B b (Lib.byteCells l) w) (q:B≤w.heap.size):
  Calls prog 83 #[.pointer (some ⟨b,0,none⟩)] w fun e w'=>e= .returned (.string ⟨l.toArray⟩)∧Below B w w':=Any.Builder_String_any Tryz.lays169 Tryz.Builder_Extra_169 B b l w h q
def Tryz.laysNm216_ren:Go.Shelf.Ren:=⟨fun|16=>132|n=>n,fun|24=>61|9=>9|4=>4|n=>n,fun|n=>n⟩
theorem Tryz.laysNm216:Go.Proofs.Lays2.n16 prog Tryz.laysNm216_ren:={
 mixed:=by kernel_rfl
 f16:=func132.trans (eI some (by kernel_rfl))
 t4:=fV
 a4:=iY
 z4:=iG
 v4:=gS
 t9:=ey
 a9:=jl
 z9:=iV
 v9:=ii
 t24:=gE
 a24:=lN
 z24:=ll
 v24:=kw
 i9:=by kernel_rfl}
open Go.RowKit Go.Lib in
theorem Tryz.slices_Clone_string (b B n c:Nat) (zs:List ByteArray) (w:World) (hz:n≤zs.length) (E:n*16≤140737488355328) (D: ∀j,j<zs.length→w.cell? ⟨b,B+j,none⟩=some (.string (zs.getD j ByteArray.empty))):
  Calls prog 132 #[.slice (some ⟨b,B,none⟩) n c] w fun e w'=> ∃q,e= .returned q∧w'.ownsRow w.heap.size 9 1 q n ((zs.take n).map (Value.string))∧q≠ .slice none 0 0∧Below w.heap.size w w':=Any.slices_Clone_string Tryz.laysNm216 b B n c zs w hz E D
open Go.RowKit Go.Lib in
theorem Tryz.slices_Clone_string_nil (n c:Nat) (w:World):
  Calls prog 132 #[.slice none n c] w fun e w'=>e= .returned (.slice none 0 0)∧w'=w:=Any.slices_Clone_string_nil Tryz.laysNm216 n c w
open Go.RowKit Go.Lib in
theorem Tryz.slices_Clone_string_zero (a:Addr) (c:Nat) (w:World):
  Calls prog 132 #[.slice (some a) 0 c] w fun e w'=> ∃q,e= .returned q∧w'.ownsRow w.heap.size 9 1 q 0 []∧q≠ .slice none 0 0∧Below w.heap.size w w':=Any.slices_Clone_string_zero Tryz.laysNm216 a c w
open Go.RowKit Go.Lib in
def Tryz.lays193_ren:Go.Shelf.Ren:=⟨fun|193=>99|n=>n,fun|31=>61|9=>9|4=>4|3=>3|0=>0|n=>n,fun|n=>n⟩
theorem Tryz.lays193:Go.Proofs.Lays.n193 prog Tryz.lays193_ren:={
 mixed:=by kernel_rfl
 f193:=func99.trans (eI some (by kernel_rfl))
 t0:=iE
 a0:=jL
 z0:=jE
 v0:=iQ
 t3:=fT
 a3:=i6
 z3:=iO
 v3:=gV
 t4:=fV
 a4:=iY
 z4:=iG
 v4:=gS
 t9:=ey
 a9:=jl
 z9:=iV
 v9:=ii
 t31:=gE
 a31:=lN
 z31:=ll
 v31:=kw}
open Go.RowKit Go.Lib in
theorem Tryz.slices_Equal_string (G E n c F D m d:Nat) (xs B:List ByteArray) (w:World) (I:n≤xs.length) (hy:m≤B.length) (O:n≤9223372036854775807) (N:m≤9223372036854775807) (M: ∀j,j<xs.length→w.cell? ⟨G,E+j,none⟩=some (.string (xs.getD j ByteArray.empty))) (L: ∀j,j<B.length→w.cell? ⟨F,D+j,none⟩=some (.string (B.getD j ByteArray.empty))):
  Calls prog 99 #[.slice (some ⟨G,E,none⟩) n c,.slice (some ⟨F,D,none⟩) m d] w fun e w'=>e= .returned (.bool (decide (xs.take n=B.take m)))∧ ∃q,w'=w.drewN q:=Any.slices_Equal_string Tryz.lays193 G E n c F D m d xs B w I hy O N M L
open Go.RowKit Go.Lib in
theorem Tryz.slices_Equal_string_empty (a1 a2:Option Addr) (c m d:Nat) (w:World) (q:m≤9223372036854775807):
  Calls prog 99 #[.slice a1 0 c,.slice a2 m d] w fun e w'=>e= .returned (.bool (decide (m=0)))∧w'=w:=Any.slices_Equal_string_empty Tryz.lays193 a1 a2 c m d w q
theorem Tryz.slices_Equal_string_lens (a1 a2:Option Addr) (n c m d:Nat) (w:World) (q:n≠m):
  Calls prog 99 #[.slice a1 n c,.slice a2 m d] w fun e w'=>e= .returned (.bool false)∧w'=w:=Any.slices_Equal_string_lens Tryz.lays193 a1 a2 n c m d w q
def Tryz.lays109_ren:Go.Shelf.Ren:=⟨fun|109=>97|n=>n,fun|31=>61|9=>9|3=>3|0=>0|4=>4|n=>n,fun|n=>n⟩
theorem Tryz.lays109:Go.Proofs.Lays.n109 prog Tryz.lays109_ren:={
 mixed:=by kernel_rfl
 f109:=func97.trans (eI some (by kernel_rfl))
 t0:=iE
 a0:=jL
 z0:=jE
 v0:=iQ
 t3:=fT
 a3:=i6
 z3:=iO
 v3:=gV
 t4:=fV
 a4:=iY
 z4:=iG
 v4:=gS
 t9:=ey
 a9:=jl
 z9:=iV
 v9:=ii
 t31:=gE
 a31:=lN
 z31:=ll
 v31:=kw}
open Go.Lib in
theorem Tryz.slices_Index_string (b q n c:Nat) (zs:List ByteArray) (x:ByteArray) (w:World) (hz:n≤zs.length) (D:n≤9223372036854775807) (B: ∀j,j<zs.length→w.cell? ⟨b,q+j,none⟩=some (.string (zs.getD j ByteArray.empty))):
  Calls prog 97 #[.slice (some ⟨b,q,none⟩) n c,.string x] w fun e w'=>e= .returned (.int .i64 (Lib.idxOfS (zs.take n) x))∧w'=w:=Any.slices_Index_string Tryz.lays109 b q n c zs x w hz D B
open Go.Lib in
theorem Tryz.slices_Index_string_empty (a:Option Addr) (c:Nat) (x:ByteArray) (w:World):
  Calls prog 97 #[.slice a 0 c,.string x] w fun e w'=>e= .returned (.int .i64 (Lib.idxOfS [] x))∧w'=w:=Any.slices_Index_string_empty Tryz.lays109 a c x w
def Tryz.lays106_ren:Go.Shelf.Ren:=⟨fun|106=>118|213=>152|265=>177|n=>n,fun|9=>9|3=>3|n=>n,fun|n=>n⟩
theorem Tryz.lays106:Go.Proofs.Lays.n106 prog Tryz.lays106_ren:={
 mixed:=by kernel_rfl
 f106:=func118.trans (eI some (by kernel_rfl))
 f213:=func152.trans (eI some (by kernel_rfl))
 f265:=func177.trans (eI some (by kernel_rfl))
 t3:=fT
 a3:=i6
 z3:=iO
 v3:=gV
 t9:=ey
 a9:=jl
 z9:=iV
 v9:=ii}
open Go.RowKit in
theorem Tryz.strings_Compare (a b:ByteArray) (w:World):
  Calls prog 118 #[.string a,.string b] w fun e w'=>e= .returned (.int .i64 (Lib.compareBytes a.data.toList b.data.toList))∧w'=w:=Any.strings_Compare Tryz.lays106 a b w
def Tryz.lays103_ren:Go.Shelf.Ren:=⟨fun|103=>220|210=>226|206=>229|n=>n,fun|9=>9|4=>4|24=>274|3=>3|n=>n,fun|n=>n⟩
theorem Tryz.lays103:Go.Proofs.Lays.n103 prog Tryz.lays103_ren:={
 mixed:=by kernel_rfl
 f103:=func220.trans (eI some (by kernel_rfl))
 f206:=func229.trans (eI some (by kernel_rfl))
 f210:=func226.trans (eI some (by kernel_rfl))
 t3:=fT
 a3:=i6
 z3:=iO
 v3:=gV
 t4:=fV
 a4:=iY
 z4:=iG
 v4:=gS
 t9:=ey
 a9:=jl
 z9:=iV
 v9:=ii
 t24:=underlying274
 a24:=Tryz.isAgg274
 z24:=Tryz.sizeOf274
 v24:=Tryz.zeroValue274}
open Go.RowKit in
theorem Tryz.strings_CutPrefix (s p:ByteArray) (w:World):
  Calls prog 220 #[.string s,.string p] w fun e w'=>e= .returned (.tuple #[.string ⟨(Lib.trimPrefix s.data.toList p.data.toList).toArray⟩,.bool (Lib.hasPrefix s.data.toList p.data.toList)])∧w'=w:=Any.strings_CutPrefix Tryz.lays103 s p w
def Tryz.lays137_ren:Go.Shelf.Ren:=⟨fun|137=>161|217=>184|266=>201|n=>n,fun|9=>9|5=>5|3=>3|n=>n,fun|n=>n⟩
theorem Tryz.lays137:Go.Proofs.Lays.n137 prog Tryz.lays137_ren:={
 mixed:=by kernel_rfl
 f137:=func161.trans (eI some (by kernel_rfl))
 f217:=func184.trans (eI some (by kernel_rfl))
 f266:=func201.trans (eI some (by kernel_rfl))
 t3:=fT
 a3:=i6
 z3:=iO
 v3:=gV
 t5:=fd
 a5:=lv
 z5:=kS
 v5:=jZ
 t9:=ey
 a9:=jl
 z9:=iV
 v9:=ii}
open Go.RowKit in
theorem Tryz.strings_IndexByte (s:ByteArray) (c:Int) (w:World):
  Calls prog 161 #[.string s,.int .u8 c] w fun e w'=>e= .returned (.int .i64 (Lib.indexByte s.data.toList c.toNat.toUInt8))∧w'=w:=Any.strings_IndexByte Tryz.lays137 s c w
def Tryz.lays156_ren:Go.Shelf.Ren:=⟨fun|156=>77|165=>78|166=>109|169=>83|240=>110|241=>111|276=>143|277=>144|n=>n,fun|31=>61|9=>9|3=>3|4=>4|0=>0|20=>20|72=>120|76=>126|70=>118|37=>46|75=>26|127=>158|164=>85|5=>5|80=>129|n=>n,fun|n=>n⟩
theorem Tryz.lays156:Go.Proofs.Lays.n156 prog Tryz.lays156_ren:={
 mixed:=by kernel_rfl
 f156:=func77.trans (eI some (by kernel_rfl))
 f165:=func78.trans (eI some (by kernel_rfl))
 f166:=func109.trans (eI some (by kernel_rfl))
 f169:=func83.trans (eI some (by kernel_rfl))
 f240:=func110.trans (eI some (by kernel_rfl))
 f241:=func111.trans (eI some (by kernel_rfl))
 f276:=func143.trans (eI some (by kernel_rfl))
 f277:=func144.trans (eI some (by kernel_rfl))
 t0:=iE
 a0:=jL
 z0:=jE
 v0:=iQ
 t3:=fT
 a3:=i6
 z3:=iO
 v3:=gV
 t4:=fV
 a4:=iY
 z4:=iG
 v4:=gS
 t9:=ey
 a9:=jl
 z9:=iV
 v9:=ii
 t20:=underlying20
 a20:=Tryz.isAgg20
 z20:=Tryz.sizeOf20
 v20:=Tryz.zeroValue20
 t31:=gE
 a31:=lN
 z31:=ll
 v31:=kw
 t37:=ef
 a37:=mA
 z37:=mp
 v37:=ld
 t70:=iT
 a70:=Tryz.isAgg118
 z70:=Tryz.sizeOf118
 v70:=mg
 t72:=lW
 a72:=Tryz.isAgg120
 z72:=Tryz.sizeOf120
 v72:=l7
 t75:=underlying26
 a75:=Tryz.isAgg26
 z75:=Tryz.sizeOf26
 v75:=Tryz.zeroValue26
 t76:=underlying126
 a76:=Tryz.isAgg126
 z76:=Tryz.sizeOf126
 v76:=Tryz.zeroValue126
 t127:=lT
 a127:=Tryz.isAgg158
 z127:=Tryz.sizeOf158
 v127:=l8
 t164:=kW
 a164:=Tryz.isAgg85
 z164:=Tryz.sizeOf85
 v164:=Tryz.zeroValue85}
theorem Tryz.Builder_Extra_156:Builder.Extra prog Tryz.lays156_ren:={
 sizeBuilder:=by kernel_rfl
 liesBuilder:=by kernel_rfl
 t5:=fd
 a5:=lv
 z5:=kS
 v5:=jZ
 infoByte:=by kernel_rfl
 cellsByte:=by kernel_rfl
 sizeByte:=by kernel_rfl
 neB5:=by decide}
open Go.RowKit in
theorem Tryz.strings_Join (B o c:Nat) (xs:List ByteArray) (q:ByteArray) (w:World) (E: ∀(j:Nat) x,xs[j]? =some x→w.cell? ⟨B,o+j,none⟩=some (.string x)) (G:B<w.heap.size) (I:xs.length≤140737488355328) (F:xs.length≤c) (D:(Lib.join (xs.map (·.data.toList)) q.data.toList).length≤140737488355328):
  Calls prog 77 #[.slice (some ⟨B,o,none⟩) xs.length c,.string q] w fun e w'=>e= .returned (.string ⟨(Lib.join (xs.map (·.data.toList)) q.data.toList).toArray⟩)∧Below w.heap.size w w':=Any.strings_Join Tryz.lays156 Tryz.Builder_Extra_156 B o c xs q w E G I F D
end Go.Proofs
namespace Go.Proofs
open Go.Shelf Tryz
def Tryz.lays146_ren:Go.Shelf.Ren:=⟨fun|146=>62|221=>91|268=>121|138=>122|143=>123|195=>156|197=>157|218=>158|219=>159|260=>183|217=>184|225=>185|224=>186|267=>187|266=>201|314=>202|n=>n,fun|9=>9|31=>61|3=>3|4=>4|0=>0|105=>224|21=>21|5=>5|46=>111|119=>255|139=>258|138=>257|146=>259|51=>124|n=>n,fun|1=>1|3=>4|4=>5|n=>n⟩
theorem Tryz.lays146:Go.Proofs.Lays.n146 prog Tryz.lays146_ren:={
 mixed:=by kernel_rfl
 f138:=func122.trans (eI some (by kernel_rfl))
 f143:=func123.trans (eI some (by kernel_rfl))
 f146:=func62.trans (eI some (by kernel_rfl))
 f195:=func156.trans (eI some (by kernel_rfl))
 f197:=func157.trans (eI some (by kernel_rfl))
 f217:=func184.trans (eI some (by kernel_rfl))
 f218:=func158.trans (eI some (by kernel_rfl))
 f219:=func159.trans (eI some (by kernel_rfl))
 f221:=func91.trans (eI some (by kernel_rfl))
 f224:=func186.trans (eI some (by kernel_rfl))
 f225:=func185.trans (eI some (by kernel_rfl))
 f260:=func183.trans (eI some (by kernel_rfl))
 f266:=func201.trans (eI some (by kernel_rfl))
 f267:=func187.trans (eI some (by kernel_rfl))
 f268:=func121.trans (eI some (by kernel_rfl))
 f314:=func202.trans (eI some (by kernel_rfl))
 t0:=iE
 a0:=jL
 z0:=jE
 v0:=iQ
 t3:=fT
 a3:=i6
 z3:=iO
 v3:=gV
 t4:=fV
 a4:=iY
 z4:=iG
 v4:=gS
 t5:=fd
 a5:=lv
 z5:=kS
 v5:=jZ
 t9:=ey
 a9:=jl
 z9:=iV
 v9:=ii
 t21:=underlying21
 a21:=Tryz.isAgg21
 z21:=Tryz.sizeOf21
 v21:=Tryz.zeroValue21
 t31:=gE
 a31:=lN
 z31:=ll
 v31:=kw
 t46:=underlying111
 a46:=Tryz.isAgg111
 z46:=Tryz.sizeOf111
 v46:=Tryz.zeroValue111
 t51:=iD
 a51:=Tryz.isAgg124
 z51:=Tryz.sizeOf124
 v51:=Tryz.zeroValue124
 t105:=underlying224
 a105:=Tryz.isAgg224
 z105:=Tryz.sizeOf224
 v105:=Tryz.zeroValue224
 t119:=underlying255
 a119:=Tryz.isAgg255
 z119:=Tryz.sizeOf255
 t138:=underlying257
 a138:=Tryz.isAgg257
 z138:=Tryz.sizeOf257
 v138:=Tryz.zeroValue257
 t139:=underlying258
 a139:=Tryz.isAgg258
 z139:=Tryz.sizeOf258
 v139:=Tryz.zeroValue258
 t146:=underlying259
 a146:=Tryz.isAgg259
 z146:=Tryz.sizeOf259
 v146:=Tryz.zeroValue259
 g1:=by kernel_rfl
 g3:=by kernel_rfl
 g4:=by kernel_rfl}
open Go.RowKit Go.Lib in
theorem Tryz.strings_Split (s q:ByteArray) (m:Int) (w:World) (B:s.size<4294967281) (D:w.cell? ⟨1,0,none⟩=some (.int .i64 m)) (h1:1≤q.size):
  Calls prog 62 #[.string s,.string q] w fun e w'=>
   e= .returned (.slice (some ⟨w.heap.size,0,none⟩) (Lib.countB s q+1) (Lib.countB s q+1))∧w'=w.alloc (.cells ((Lib.splitB q 0 (Lib.countB s q) s).map Value.string).toArray 9):=Any.strings_Split Tryz.lays146 (by kernel_rfl) s q m w B D h1
def Tryz.laysM316_ren:Go.Shelf.Ren:=⟨fun|316=>70|n=>n,fun|9=>9|3=>3|4=>4|37=>46|0=>0|127=>158|5=>5|n=>n,fun|n=>n⟩
theorem Tryz.laysM316:Go.Proofs.LaysM.n316 prog Tryz.laysM316_ren:={
 mixed:=by kernel_rfl
 f316:=func70.trans (eI some (by kernel_rfl))
 t0:=iE
 a0:=jL
 z0:=jE
 v0:=iQ
 t3:=fT
 a3:=i6
 z3:=iO
 v3:=gV
 t4:=fV
 a4:=iY
 z4:=iG
 v4:=gS
 t9:=ey
 a9:=jl
 z9:=iV
 v9:=ii
 t37:=ef
 a37:=mA
 z37:=mp
 v37:=ld
 t127:=lT
 a127:=Tryz.isAgg158
 z127:=Tryz.sizeOf158
 v127:=l8
 t5:=fd
 a5:=lv
 z5:=kS
 v5:=jZ
 i0:=by kernel_rfl
 i3:=by kernel_rfl
 i4:=by kernel_rfl
 i5:=by kernel_rfl
 i9:=by kernel_rfl
 i37:=by kernel_rfl
 i127:=by kernel_rfl}
open Go.RowKit in
theorem Tryz.stringslite_Clone (s:ByteArray) (w:World) (q:s.size≤281474976710656):
  Calls prog 70 #[.string s] w fun e w'=>e= .returned (.string s)∧Below w.heap.size w w':=Any.stringslite_Clone Tryz.laysM316 s w q
end Go.Proofs
