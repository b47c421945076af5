/- The walks of errors.As, Num and Pos. -/
import Derived.Test.YtdgpphihjeffcaaDoorErrAsE
namespace Go.Proofs.YtdgpphihjeffcaaDoor
open Go Go.RowKit Go.Extern.Stop Go.Stop Go.Extern
set_option maxRecDepth 100000 in
set_option maxHeartbeats 4000000 in
theorem asN_of (d : TypeId) (v : Value) (t : Addr) (old : Value) (w : World) (r : Bool) (R : World → World → Prop) (hg : w.cell? ⟨0, 0, none⟩ = some (.iface 86 (.agg #[.pointer (some ⟨4, 24, none⟩)]))) (ht : w.cell? t = some old) (hf : w.frozen? t = false)
    (has : ∀ W a, W.cell? a = some (.pointer (some t)) → W.cell? t = some old → W.frozen? t = false → Below w.heap.size w W → Calls Tryd.prog 37 #[.iface d v, .iface 41 (.pointer (some t)), .agg #[.pointer (some ⟨4, 41, none⟩), .pointer (some a), .int .u64 150], .iface 86 (.agg #[.pointer (some ⟨4, 33, none⟩)])] W fun ev w' => ev = .returned (.bool r) ∧ R W w') :
    Calls Tryd.prog 20 #[.iface d v, .iface 41 (.pointer (some t))] w fun ev w' => ev = .returned (.bool r) ∧ ∃ W, Below w.heap.size w W ∧ R W w' := by
  have h55 := @run_callFunc_extern Tryd.prog 34 _ (fun args => ReflectliteValue.unpack (args.getD 0 (.tuple #[]))) Tryd.func34 (by kernel_rfl) (by kernel_rfl) (by kernel_rfl) (by kernel_rfl)
  have h56 := @run_callFunc_extern Tryd.prog 35 _ (ReflectliteValue.methodAny (ReflectliteValue.valueError "reflectlite.Value.Type" 0) (fun t _ _ _ => ReflectliteType.toType t)) Tryd.func35 (by kernel_rfl) (by kernel_rfl) (by kernel_rfl) (by kernel_rfl)
  have h57 := @run_callFunc_extern Tryd.prog 36 _ (ReflectliteValue.method (ReflectliteValue.valueError "reflectlite.Value.IsNil" 0) ReflectliteValue.isNil) Tryd.func36 (by kernel_rfl) (by kernel_rfl) (by kernel_rfl) (by kernel_rfl)
  have h80 := @run_callFunc_extern Tryd.prog 81 _ (ReflectliteType.abiMethod fun t => do pure (.int .u8 (← Rtype.kind t))) Tryd.func81 (by kernel_rfl) (by kernel_rfl) (by kernel_rfl) (by kernel_rfl)
  have h93 := @run_callFunc_extern Tryd.prog 92 _ (ReflectliteType.method ReflectliteType.elem) Tryd.func92 (by kernel_rfl) (by kernel_rfl) (by kernel_rfl) (by kernel_rfl)
  have h94 := @run_callFunc_extern Tryd.prog 93 _ (ReflectliteType.relation "Implements" ReflectliteType.implements_) Tryd.func93 (by kernel_rfl) (by kernel_rfl) (by kernel_rfl) (by kernel_rfl)
  have f6 := valNT
  have f7 := typeNT
  have mK := methodKind
  have mE := methodElem
  have mI := methodImplements
  have k27 := kindNT
  have k25 := kindNE
  have e27 := elemNT
  have i25 := implNE
  have hlt := lt_of_cell hg
  have htl := lt_of_cell ht
  have n8 := isNilNT ⟨w.heap.size, 0, none⟩ t ((w.alloc (.cells #[.pointer (some t)] 41)).alloc (.cells #[.pointer (some ⟨4, 41, none⟩), .pointer (some ⟨w.heap.size, 0, none⟩), .int .u64 150] 61)) (by simp)
  have hg2 : ((w.alloc (.cells #[.pointer (some t)] 41)).alloc (.cells #[.pointer (some ⟨4, 41, none⟩), .pointer (some ⟨w.heap.size, 0, none⟩), .int .u64 150] 61)).cell? ⟨0, 0, none⟩ = some (.iface 86 (.agg #[.pointer (some ⟨4, 24, none⟩)])) := by
    rw [World.cell?_alloc_lt _ _ ⟨0, 0, none⟩ (by rw [World.size_alloc]; exact Nat.lt_succ_of_lt hlt), World.cell?_alloc_lt _ _ ⟨0, 0, none⟩ hlt]; exact hg
  have hb2 : Below w.heap.size w ((w.alloc (.cells #[.pointer (some t)] 41)).alloc (.cells #[.pointer (some ⟨4, 41, none⟩), .pointer (some ⟨w.heap.size, 0, none⟩), .int .u64 150] 61)) := ((Below.refl _ _).alloc (Nat.le_refl _) _).alloc (by simp) _
  have HA := Lib.hid (has ((w.alloc (.cells #[.pointer (some t)] 41)).alloc (.cells #[.pointer (some ⟨4, 41, none⟩), .pointer (some ⟨w.heap.size, 0, none⟩), .int .u64 150] 61)) ⟨w.heap.size, 0, none⟩ (by rw [World.cell?_alloc_lt _ _ ⟨w.heap.size, 0, none⟩ (by simp)]; simp)
    (by rw [World.cell?_alloc_lt _ _ t (by simp; omega), World.cell?_alloc_lt _ _ t htl]; exact ht)
    (by rw [World.frozen?_alloc_old _ _ t (by simp; omega), World.frozen?_alloc_old _ _ t (Nat.ne_of_lt htl)]; exact hf) hb2)
  have HB := Lib.hid hb2
  clear has hg ht hf hb2
  go_enter Tryd.func20, Tryd.ntmps20
  go_wp2_with (go_at_call 37; refine HA.out.mono ?_; rintro ev w' ⟨rfl, hq⟩; have HQ := Lib.hid hq; clear hq)
  go_ret
  exact ⟨rfl, _, HB.out, HQ.out⟩

end Go.Proofs.YtdgpphihjeffcaaDoor
