/- From the rows' condition on package variables to what the walks of pkce's laws ask of the world. -/
import Derived.Test.YtdgpphihjeffcaaDoorErrRowE
import Derived.Test.YtdgpphihjeffcaaDoorShaTabs
import Derived.LaidMore
import Derived.LaidSub
import Derived.Lay
import Derived.Lib.LaidTab
import Derived.ProofKit
import Derived.OpenShut
import Derived.Stop.Joined
import Derived.Deep.DeepHandedRow
import Derived.ChangeMaps5
namespace Go.Proofs.YtdgpphihjeffcaaDoor
open Go Go.RowKit
open Go.ChangeShapes Go.WideShapes

theorem gStart : Tryd.prog.globalNamed "warrant/sha.start" = some 2 := by kernel_rfl
theorem gRoots : Tryd.prog.globalNamed "warrant/sha.roots" = some 1 := by kernel_rfl
theorem tStart : (Tryd.prog.globals[2]?).map (·.type) = some 79 := by kernel_rfl
theorem tRoots : (Tryd.prog.globals[1]?).map (·.type) = some 115 := by kernel_rfl
theorem c33 : Tryd.prog.cellsOf 52 = 1 := by kernel_rfl
theorem c34 : Tryd.prog.cellsOf 79 = 8 := by kernel_rfl
theorem c57 : Tryd.prog.cellsOf 115 = 64 := by kernel_rfl
theorem rowStart : ((((begin Tryd.prog (fun _ _ => 0) default).world.heap[2]?).bind Obj.row?).map (·.2)) = some 79 := by kernel_rfl
theorem rowRoots : ((((begin Tryd.prog (fun _ _ => 0) default).world.heap[1]?).bind Obj.row?).map (·.2)) = some 115 := by kernel_rfl
theorem sizeGlobals : Tryd.prog.globals.size = 4 := by kernel_rfl
def laidL : List (String × DataW Unit) := [("warrant/sha.start", Rows.laid_warrant_sha_start), ("warrant/sha.roots", Rows.laid_warrant_sha_roots)]
def laidK : List (String × DataW Unit) := [("warrant/sha.start", Rows.laid_warrant_sha_start), ("warrant/sha.roots", Rows.laid_warrant_sha_roots), ("errors.errorType", Rows.laid_errors_errorType)]
theorem blk_of {W : World} {g : Nat} {t : TypeId} {n : String} {cs : Array Value} {zs : List Int} (hsh : W.ShapedOpen Tryd.prog) (hlt : g < Tryd.prog.globals.size)
    (hrow : ((((begin Tryd.prog (fun _ _ => 0) default).world.heap[g]?).bind Obj.row?).map (·.2)) = some t) (hg : Tryd.prog.globalNamed n = some g) (hv : W.var? Tryd.prog n = some cs) (hc : cs.toList = zs.map fun z => Value.int .u32 z) :
    Blk W g t (ints .u32 zs) := by
  obtain ⟨⟨zero, t'⟩, hz, ht⟩ := Option.map_eq_some_iff.1 hrow
  simp only at ht
  subst ht
  obtain ⟨cs', hh, _, _⟩ := hsh.1 g zero t' hlt hz
  have hcs : cs' = cs := by
    unfold World.var? at hv
    simp only [hg, Option.bind_some, hh] at hv
    exact Option.some.inj hv
  subst hcs
  unfold Blk
  rw [hh]
  have : cs' = (ints .u32 zs).toArray := by rw [ints, ← hc]
  rw [this]

theorem tabs_of {W : World} (hL : laidMetH Tryd.prog laidL W) (hsh : W.ShapedOpen Tryd.prog) : Tabs W := by
  rw [MakeChecks.laidMetH_plain _ _ _ (by kernel_rfl)] at hL
  obtain ⟨ps, ⟨g0, t0, cs0, f0, p0, q0, hg0, ht0, hv0, hd0, ⟨g1, t1, cs1, f1, p1, q1, hg1, ht1, hv1, hd1, _, _⟩, _⟩, _, _⟩ := hL
  obtain rfl := Option.some.inj (gStart.symm.trans hg0)
  obtain rfl := Option.some.inj (gRoots.symm.trans hg1)
  obtain rfl := Option.some.inj (tStart.symm.trans ht0)
  obtain rfl := Option.some.inj (tRoots.symm.trans ht1)
  have e0 := Lib.cells_of_tab (zs := startL) Tryd.underlying79 Tryd.underlying52 c33 c34 hd0
  have e1 := Lib.cells_of_tab (zs := rootsL) Tryd.underlying115 Tryd.underlying52 c33 c57 hd1
  exact ⟨blk_of hsh (by rw [sizeGlobals]; decide) rowRoots gRoots hv1 e1, blk_of hsh (by rw [sizeGlobals]; decide) rowStart gStart hv0 e0⟩
theorem laidE_ofK {W : World} (h : laidMetH Tryd.prog laidK W) : laidMetH Tryd.prog laidE W := h.filter (fun x => x.1 == "errors.errorType")
theorem laidL_ofK {W : World} (h : laidMetH Tryd.prog laidK W) : laidMetH Tryd.prog laidL W := h.filter (fun x => x.1 == "warrant/sha.start" || x.1 == "warrant/sha.roots")
/-- Worlds that meet these. -/
noncomputable def laidWorldK (os : Os) : World := (laidWorldE os).layVars Tryd.prog laidL
theorem laidWorldK_os (os : Os) : (laidWorldK os).os = os := (World.layVars_os _ _ _).trans rfl
theorem laidWorldK_tabs (os : Os) (args : Array Value) : laidMet Tryd.prog laidL ((laidWorldK os).forCall (fun _ _ => 0) ⟨#[], args, []⟩).memory := by
  have h : laidMet Tryd.prog laidL (laidWorldK os) := laidMet_layVars (w0 := laidWorldE os) ["warrant/sha.start", "warrant/sha.roots"] [] (by kernel_rfl) (by kernel_rfl) (by kernel_rfl) LaidIn.none
  exact h.of_heap (by simp [World.memory, World.forCall, Input.heap])
theorem laidWorldK_met (os : Os) (args : Array Value) : laidMetH Tryd.prog laidK ((laidWorldK os).forCall (fun _ _ => 0) ⟨#[], args, []⟩).memory :=
  laidMetH_of_parts (laidWorldK_tabs os args) (by kernel_rfl)
theorem laidWorldL_met (os : Os) (args : Array Value) : laidMetH Tryd.prog laidL ((laidWorldK os).forCall (fun _ _ => 0) ⟨#[], args, []⟩).memory := by
  rw [MakeChecks.laidMetH_plain _ _ _ (by kernel_rfl)]; exact laidWorldK_tabs os args
section
variable {H : Type} {enc : TypeId × Value → H} {P : Program} {w : World} {base : Nat} {spare : Nat → Bool} {held : Bool}
theorem open_bool {r : Reach} {b0 : Nat} {t : TypeId} {v : Value} {d : DataW H} {ps : List MemPlace} (ht : P.underlying t = some .bool) (hval : Value.okWide P w r b0 t v) (hd : DataW.Trod enc P w base spare held t v d ps) :
    ∃ b, v = .bool b ∧ d = .lit (.bool b) ∧ ps = [] := by
  obtain ⟨n, rfl⟩ := okWide_bool ht hval
  obtain ⟨fuel, hf⟩ := hd
  obtain ⟨n', h, hx⟩ := DataW.trod_bool ht hf
  simp [Value.cells] at h
  subst h
  simp only [Prod.mk.injEq] at hx
  exact ⟨n, rfl, hx.1, hx.2⟩
end
end Go.Proofs.YtdgpphihjeffcaaDoor
