
import Derived.Test.YthbpgdmbcegodaaGreatDoorProg
import Derived.WalkKit
import Derived.Below
import Derived.Laws.Rows
import Derived.Laws.Tables
import Derived.Laws.OwnMore
import Derived.Laws.CopyOwn
import Derived.Deep.Draws
import Derived.Deep.MidRow
import Derived.Deep.WholeRow
import Derived.Maps.AppendAt
import Derived.Lib.Hide
import Derived.Deep.RegionLaw
import Derived.Lib.ConvBytes
import Derived.Laws.BytesString
import Derived.Laws.BytesArg
import Derived.Deep.Slices
import Derived.Deep.Fields
import Derived.ChangeSame
import Derived.Carry
set_option maxRecDepth 100000
set_option maxHeartbeats 16000000
set_option linter.all false
namespace Go.Proofs.YthbpgdmbcegodaaGreatDoor
open Go Go.RowKit Go.ChangeShapes Go.WideShapes Go.Deep
section
variable {H:Type} {enc:TypeId×Value→H} {P:Program} {w:World} {base:Nat} {sp:Nat→Bool} {held:Bool}
theorem struct_ones {t:TypeId} {fs:Array Field} {fuel:Nat} {cs:List Value} {x:DataW H×List MemPlace} (ht:P.underlying t=some (.struct fs)) (hone:oneCellFields P fs=true) (h:DataW.trod enc P w base sp held fuel t cs=some x):
  ∃(n:Nat) (xs:List (DataW H×List MemPlace)),fuel=n+1∧cs.length=P.cellsOf t∧xs.length=fs.size∧ ∀(j:Nat) (f:Field) (v:Value),fs[j]? =some f→cs[j]? =some v→DataW.trod enc P w base sp held n f.type [v]=xs[j]? :=by
 obtain⟨xs,n,rfl,rfl,hlen,hxl,hf⟩:=DataW.trod_struct ht h
 refine⟨n,xs,rfl,hlen,hxl,fun j f v hj hv=> ?_⟩
 have h1:=hf j f hj
 obtain⟨ho,hk⟩:=hone_of hone j f hj
 rw[ho,hk]at h1
 have hlt:=(List.getElem?_eq_some_iff.1 hv).1
 rw[take1_drop _ j undef hlt,List.getD_eq_getElem?_getD,hv]at h1
 exact h1
end
section
variable {H:Type} {enc:TypeId×Value→H} {w:World} {base:Nat} {sp:Nat→Bool} {held:Bool}
end
end Go.Proofs.YthbpgdmbcegodaaGreatDoor
