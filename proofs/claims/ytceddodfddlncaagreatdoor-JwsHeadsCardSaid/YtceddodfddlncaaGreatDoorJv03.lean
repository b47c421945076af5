
import Derived.Test.YtceddodfddlncaaGreatDoorRows
import Derived.ProofKit
import Derived.LaidMore
import Derived.LaidHandle
import Derived.LaidLaws
import Derived.Lay
import Derived.OpenShut
import Derived.Stop.Joined
import Derived.Deep.DeepHandedRow
import Derived.ChangeMaps5
import Derived.Test.YtceddodfddlncaaGreatDoorJv02
set_option maxRecDepth 100000
set_option maxHeartbeats 16000000
set_option linter.all false
namespace Go.Proofs.YtceddodfddlncaaGreatDoor
open Go Go.RowKit Go.Proofs.Tryz
def gd:=@Option.some.inj
theorem uo:ownKnob prog.godebug=none:=by kernel_rfl
theorem LP:prog.globalNamed "errors.errorType" =some 0:=by kernel_rfl
theorem rtErr:(prog.cutTypes.find? (·.1== "internal/reflectlite.rtype")).map (·.2)=some 137:=by kernel_rfl
theorem Gu:((List.range (404-100)).filter fun t=>prog.rowNamed t [101,114,114,111,114])=[26]:=by kernel_rfl
theorem z8:prog.types.size=404-100:=by kernel_rfl
def FN:List (String×DataW Unit):=[("errors.errorType",Rows.laid_errors_errorType)]
theorem Bb {W:World} (h:laidMetH prog FN W):ErrTab W:=by
 have F:laidMet prog [] W∧handlesMet prog FN W:=h
 obtain⟨name,u,D,N,M,L,I,B⟩:=F.2 _ (List.mem_singleton.2 rfl)
 have G:name=[101,114,114,111,114]:=(gd N).symm
 subst G
 obtain rfl:=gd (rtErr.symm.trans M)
 have q:D∈(List.range (404-100)).filter fun t=>prog.rowNamed t [101,114,114,111,114]:=List.mem_filter.2 ⟨List.mem_range.2 (by rw[←z8];exact L),I⟩
 rw[Gu]at q
 obtain rfl:=List.mem_singleton.1 q
 have E:typeHandle prog 26= .pointer (some ⟨7,26,none⟩):=by kernel_rfl
 rw[E]at B
 simpa using World.var?_cell LP B 0
noncomputable def L7 (os:Os):World:=
 let w0:=World.holding prog os ⟨#[],#[],[]⟩
 {w0 with heap:=w0.heap.modify 0 fun
   | .cells _ t frozen=> .cells #[.iface 137 (.agg #[.pointer (some ⟨7,26,none⟩)])] t frozen
   |o=>o}
end Go.Proofs.YtceddodfddlncaaGreatDoor
