/- From the rows' condition on the two tables to what the walks ask of the world. -/
import Derived.Test.YteniifabfceocaaDoorRows
import Derived.Test.YteniifabfceocaaDoorShaLaw
import Derived.ProofKit
import Derived.LaidMore
import Derived.Lay
import Derived.OpenShut
import Derived.Stop.Joined
import Derived.Lib.LaidTab
import Derived.Deep.DeepHandedRow
import Derived.ChangeMaps5
namespace Go.Proofs.YteniifabfceocaaDoor
open Go Go.RowKit

theorem own : ownKnob Tryd.prog.godebug = none := by kernel_rfl
theorem gStart : Tryd.prog.globalNamed "warrant/sha.start" = some 1 := by kernel_rfl
theorem gRoots : Tryd.prog.globalNamed "warrant/sha.roots" = some 0 := by kernel_rfl
theorem tStart : (Tryd.prog.globals[1]?).map (·.type) = some 34 := by kernel_rfl
theorem tRoots : (Tryd.prog.globals[0]?).map (·.type) = some 87 := by kernel_rfl
theorem c33 : Tryd.prog.cellsOf 33 = 1 := by kernel_rfl
theorem c34 : Tryd.prog.cellsOf 34 = 8 := by kernel_rfl
theorem c57 : Tryd.prog.cellsOf 87 = 64 := by kernel_rfl
theorem rowStart : ((((begin Tryd.prog (fun _ _ => 0) default).world.heap[1]?).bind Obj.row?).map (·.2)) = some 34 := by kernel_rfl
theorem rowRoots : ((((begin Tryd.prog (fun _ _ => 0) default).world.heap[0]?).bind Obj.row?).map (·.2)) = some 87 := by kernel_rfl
theorem sizeGlobals : Tryd.prog.globals.size = 4 := by kernel_rfl

def laidL : List (String × DataW Unit) := [("warrant/sha.start", Rows.laid_warrant_sha_start), ("warrant/sha.roots", Rows.laid_warrant_sha_roots)]

theorem blk_of {W : World} {g : Nat} {t : TypeId} {n : String} {cs : Array Value} {zs : List Int} (hsh : W.ShapedOpen Tryd.prog) (hlt : g < Tryd.prog.globals.size)
    (hrow : ((((begin Tryd.prog (fun _ _ => 0) default).world.heap[g]?).bind Obj.row?).map (·.2)) = some t) (hg : Tryd.prog.globalNamed n = some g) (hv : W.var? Tryd.prog n = some cs) (hc : cs.toList = zs.map fun z => Value.int .u32 z) :
    Blk W g t (ints .u32 zs) := by
  obtain ⟨⟨zero, t'⟩, hz, ht⟩ := Option.map_eq_some_iff.1 hrow
  simp only at ht
  subst ht
  obtain ⟨cs', hh, _, _⟩ := hsh.1 g zero t' hlt hz
  have hcs : cs' = cs := by
    unfold World.var? at hv
    simp only [hg, Option.bind_some, hh] at hv
    exact Option.some.inj hv
  subst hcs
  unfold Blk
  rw [hh]
  have : cs' = (ints .u32 zs).toArray := by rw [ints, ← hc]
  rw [this]

theorem tabs_of {W : World} (hL : laidMetH Tryd.prog laidL W) (hsh : W.ShapedOpen Tryd.prog) : Tabs W := by
  rw [MakeChecks.laidMetH_plain _ _ _ (by kernel_rfl)] at hL
  obtain ⟨ps, ⟨g0, t0, cs0, f0, p0, q0, hg0, ht0, hv0, hd0, ⟨g1, t1, cs1, f1, p1, q1, hg1, ht1, hv1, hd1, _, _⟩, _⟩, _, _⟩ := hL
  obtain rfl := Option.some.inj (gStart.symm.trans hg0)
  obtain rfl := Option.some.inj (gRoots.symm.trans hg1)
  obtain rfl := Option.some.inj (tStart.symm.trans ht0)
  obtain rfl := Option.some.inj (tRoots.symm.trans ht1)
  have e0 := Lib.cells_of_tab (zs := startL) Tryd.underlying34 Tryd.underlying33 c33 c34 hd0
  have e1 := Lib.cells_of_tab (zs := rootsL) Tryd.underlying87 Tryd.underlying33 c33 c57 hd1
  exact ⟨blk_of hsh (by rw [sizeGlobals]; decide) rowRoots gRoots hv1 e1, blk_of hsh (by rw [sizeGlobals]; decide) rowStart gStart hv0 e0⟩
end Go.Proofs.YteniifabfceocaaDoor
