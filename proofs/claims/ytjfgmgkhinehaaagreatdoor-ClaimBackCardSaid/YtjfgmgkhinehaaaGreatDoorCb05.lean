
import Derived.Test.YtjfgmgkhinehaaaGreatDoorProg
import Derived.WalkKit
import Derived.Below
import Derived.Laws.Rows
import Derived.Laws.Tables
import Derived.Laws.OwnMore
import Derived.Laws.CopyOwn
import Derived.Deep.Draws
import Derived.Deep.MidRow
import Derived.Deep.WholeRow
import Derived.Maps.AppendAt
import Derived.Lib.Hide
import Derived.Deep.RegionLaw
import Derived.Lib.ConvBytes
import Derived.Laws.BytesString
import Derived.Laws.BytesArg
import Derived.WalkLawsBesides
import Derived.WalkSpells
import Derived.Handy
import Derived.RegionTactic
import Derived.LoopTactic
import Derived.BigQuiet
import Derived.Deep.QuietTactic
import Derived.Deep.RegionHeld3
import Derived.StillTailTactics
import Derived.IntWalk
import Derived.Deep.AppendLies
set_option linter.all false
namespace Go.Proofs.YtjfgmgkhinehaaaGreatDoor
open Go Go.RowKit
def hexS (d:Int):Int:=if d<10 then 48+d else 87+d
def qOne (c:Int):List Int:=if c<32 then[92,117,48,48,hexS (c/16),hexS (c%16)]else if c=34∨c=92 then[92,c]else[c]
def qPre (l:List Int):Nat→List Int
 |0=>[34]
 |k+1=>qPre l k++qOne (l.getD k 0)
def quoteL (l:List Int):List Int:=qPre l l.length++[34]
theorem qOne_len (c:Int):(qOne c).length≤6:=by
 unfold qOne;split
 ·simp
 ·split<;>simp
theorem qPre_len (l:List Int): ∀k,(qPre l k).length≤6*k+1
 |0=>by simp[qPre]
 |k+1=>by
  have:=qPre_len l k
  have:=qOne_len (l.getD k 0)
  rw[qPre,List.length_append];omega
theorem info5:(Tryz.prog.info? 5).map (fun i=>(i.zero,i.size,i.bytes))=some (some (.int .u8 0),1,1):=by kernel_rfl
theorem hexS_nat: ∀i:Fin 16,(((⟨#[48,49,50,51,52,53,54,55,56,57,97,98,99,100,101,102]⟩:ByteArray)[i.val]'(i.isLt)).toNat:Int)=hexS (i.val:Int):=by decide
theorem hexS_get (d:Int) (h0:0≤d) (h1:d<16):(((⟨#[48,49,50,51,52,53,54,55,56,57,97,98,99,100,101,102]⟩:ByteArray)[d.toNat]'(by show _<16;omega)).toNat:Int)=hexS d:=by
 have:=hexS_nat ⟨d.toNat,by omega⟩
 rw[show(((⟨d.toNat,by omega⟩:Fin 16).val:Nat):Int)=d from by show((d.toNat:Nat):Int)=d;omega]at this
 exact this
end Go.Proofs.YtjfgmgkhinehaaaGreatDoor
namespace Go.Proofs.YtjfgmgkhinehaaaGreatDoor
open Go Go.RowKit
set_option maxRecDepth 100000 in
theorem belowZero_any (n:Int) (w:World) (h0: -9223372036854775808≤n) (h1:n≤9223372036854775807):
  Calls Tryz.prog 151 #[.int .i64 n] w fun e w'=>e= .returned (.int .i64 (-(n.natAbs:Int)))∧w=w':=by
 by_cases h:0<n
 ·have HR:Hid (-(n.natAbs:Int)= -n):=Lib.hid (by omega)
  go_enter Tryz.func151,Tryz.ntmps151
  go_wp2
  go_ret
  rw[HR.out]
  exact⟨rfl,rfl⟩
 ·have HR:Hid (-(n.natAbs:Int)=n):=Lib.hid (by omega)
  go_enter Tryz.func151,Tryz.ntmps151
  go_wp2
  go_ret
  rw[HR.out]
  exact⟨rfl,rfl⟩
end Go.Proofs.YtjfgmgkhinehaaaGreatDoor
