/- The walks of the laws' Num and Pos: an error's number and place. -/
import Derived.Test.YtdgpphihjeffcaaDoorErrAs2E
namespace Go.Proofs.YtdgpphihjeffcaaDoor
open Go Go.RowKit Go.Extern.Stop Go.Stop Go.Extern
abbrev ErrTab (w : World) : Prop := w.cell? ⟨0, 0, none⟩ = some (.iface 86 (.agg #[.pointer (some ⟨4, 24, none⟩)]))
theorem ErrTab.below {w w' : World} (h : ErrTab w) (hb : Below w.heap.size w w') : ErrTab w' := (hb.cell (p := ⟨0, 0, none⟩) (lt_of_cell h)).trans h

theorem num_nil (w : World) : Calls Tryd.prog 10 #[.nilIface] w fun e w' => e = .returned (.int .i64 0) ∧ w = w' := by
  go_enter Tryd.func10, Tryd.ntmps10
  go_wp2
  go_ret
  exact ⟨rfl, rfl⟩
theorem num_of (d : TypeId) (v : Value) (n : Int) (w : World) (hg : ErrTab w)
    (has : ∀ t a tg old W, W.cell? a = some (.pointer (some t)) → W.cell? t = some old → W.frozen? t = false → Below w.heap.size w W → Calls Tryd.prog 37 #[.iface d v, tg, .agg #[.pointer (some ⟨4, 41, none⟩), .pointer (some a), .int .u64 150], .iface 86 (.agg #[.pointer (some ⟨4, 33, none⟩)])] W (Hit t (.int .i64 n) W)) :
    Calls Tryd.prog 10 #[.iface d v] w fun e w' => e = .returned (.int .i64 n) ∧ Below w.heap.size w w' := by
  have hal := asN_of d v ⟨w.heap.size, 0, none⟩ (.int .i64 0) (w.alloc (.cells #[.int .i64 0] 33)) true (fun W w' => w'.cell? ⟨w.heap.size, 0, none⟩ = some (.int .i64 n) ∧ Below w.heap.size W w') (hg.below (belowAlloc _ _)) (by simp) (by simp) (fun W a h1 h2 h3 h4 => (has _ a _ _ W h1 h2 h3 ((belowAlloc _ _).trans (h4.mono (by simp)))).mono fun e w' h => ⟨h.1, h.2⟩)
  have HA := Lib.hid hal
  clear hal has
  go_enter Tryd.func10, Tryd.ntmps10
  go_wp2_with (go_at_call 20; refine HA.out.mono ?_; rintro ev w' ⟨rfl, W, hW, hcell, hb⟩; have HB := Lib.hid ((belowAlloc w _).trans ((hW.mono (by simp)).trans hb)); clear hW hb)
  go_ret
  exact ⟨rfl, HB.out⟩
theorem num_errno (n : Int) (w : World) (hg : ErrTab w) : Calls Tryd.prog 10 #[.iface 33 (.int .i64 n)] w fun e w' => e = .returned (.int .i64 n) ∧ Below w.heap.size w w' :=
  num_of _ _ n w hg fun t a tg old W h1 h2 h3 _ => asHitN n t a tg old W h1 h2 h3
end Go.Proofs.YtdgpphihjeffcaaDoor
